/- run.Program of a right program. And more of the same. -/
import Derived.Test.YtepkhlpjgnckkaaGreatDoorZD2
namespace Go.Proofs.YtepkhlpjgnckkaaGreatDoor
set_option maxRecDepth 100000
set_option maxHeartbeats 8000000
open Go.RowKit
open Par (Tr Stm Prm Chn Prc Prg Po ba)
theorem run_rc {w w5 w6 w8:World}{P:Prg}{cv av nv qv:Value}{lists:List (List Int)}{fuel lb lc:Nat}{cur:Array Value}{news:List Value}(hp:PgIs w (fun b=>b<w.heap.size) P [cv,av,nv,qv])(hl:LevAt w w.heap.size)(hfew:P.chans.length≤1000∧P.procs.length≤1000)(hf:fuel≤3000)(hb5:Below w.heap.size w w5)(hs5:w.heap.size+3≤w5.heap.size)(hpb:w5.heap[w.heap.size]? =some (.cells #[cv,av,nv,qv] 27 (0,0)))(hb6:Below w5.heap.size w5 w6)
 (hlb:w5.heap.size≤lb) (hcur:w6.heap[lb]? =some (.cells cur 48 (0,0))) (hlc:lists.length≤lc) (hmx:lc≤maxLen) (htk:cur.toList.take (lists.length*1)=news)
 (hnew:∀i (h:i<lists.length),∃x c,news[i]? =some (.slice x lists[i].length c)∧lists[i].length≤c∧LiIs w w.heap.size x lists[i])
 (h8:w8=(w6.alloc (.cells #[.slice none 0 0,.bool false,.int .i64 0,.pointer (some ⟨w.heap.size,0,none⟩),.slice (some ⟨lb,0,none⟩) lists.length lc,.int .i64 (fuel:Nat)] 64)).alloc (.cells #[.pointer (some ⟨w6.heap.size,0,none⟩)] 61)):
 Rc w8 w.heap.size w6.heap.size w.heap.size lb fuel lc P cv av nv qv (.slice none 0 0) ⟨0,[],lists⟩∧w8.heap[w6.heap.size+1]? =some (.cells #[.pointer (some ⟨w6.heap.size,0,none⟩)] 61 (0,0)):=by
 have hb68:Below w6.heap.size w6 w8:=by rw[h8];exact((Below.refl _ _).alloc (Nat.le_refl _) _).alloc (by simp) _
 have hb58:=bu hb6 hb68
 have hb8:=bu hb5 hb58
 have hlt:=lt_of_block hcur
 have h6:=hb6.size
 have hs8:w8.heap.size=w6.heap.size+2:=by rw[h8];simp
 have hbb:w8.heap[w6.heap.size+1]? =some (.cells #[.pointer (some ⟨w6.heap.size,0,none⟩)] 61 (0,0)):=by rw[h8];exact heap_at_alloc _ _ _ (by simp)
 refine⟨⟨⟨?_,⟨cur,(hb68.block _ hlt).trans hcur,fun i hi=> ?_⟩,OwnL.nil _ _ _ _ _,by show w.heap.size≤_;omega,by omega,by omega,(fun k e=>by cases e),⟨by omega,by omega⟩,Nat.le_refl _,by simp,hf,⟨hlc,by unfold maxLen at hmx;omega⟩⟩,⟨(hb58.block _ (by omega)).trans hpb,hp.keeps (Keeps.of_below hb8),hfew⟩,hl.keeps hb8.size fun b hb=>hb8.block b hb,by omega⟩,hbb⟩
 ·rw[h8];exact heap_past_alloc (heap_at_alloc _ _ _ rfl)
 ·obtain⟨x,c,e1,e2,e3⟩:=hnew i hi
  refine⟨x,c,?_,e2,e3.keeps fun b hb=>hb8.block b hb⟩
  rw[←htk,List.getElem?_take_of_lt (by simpa using hi)] at e1
  simpa using e1
theorem runC {w:World}{P:Prg}{cv av nv qv:Value}{ib ioff ic fuel m0 n0 m:Nat}{lists:List (List Int)}{g':Rr.Sg}{q:Prc}{env':Rr.Env}{back':Int}(hp:PgIs w (fun b=>b<w.heap.size) P [cv,av,nv,qv])(hl:LevAt w w.heap.size)(hOK:ProgOK P m0 n0)(hf:fuel≤3000)(hn:0<lists.length)(hn2:lists.length≤1000)
 (hli:∀i (h:i<lists.length),∃x c,w.cell? ⟨ib,ioff+i,none⟩=some (.slice x lists[i].length c)∧lists[i].length≤c∧LiIs w w.heap.size x lists[i]) (hib:ib<w.heap.size)
 (hI:∀W,Below w.heap.size w W→Calls Tryz.prog 7 #[.agg #[cv,av,nv,qv],.slice (some ⟨ib,ioff,none⟩) lists.length ic] W fun x w'=>x=.returned (.int .i64 0)∧Below W.heap.size W w')
 (hq:Rr.findP P.procs (ba [109,97,105,110])=some q) (hpz:q.params=[]) (hbl:q.body.length≤1000) (hs:(Rr.sem P fuel m).blk 0 [] 0 q.body ⟨0,[],lists⟩=some (env',back',g')):
 Calls Tryz.prog 15 #[.agg #[cv,av,nv,qv],.slice (some ⟨ib,ioff,none⟩) lists.length ic,.int .i64 (fuel:Nat)] w fun x w'=>∃ev',x=.returned (.tuple #[.agg #[ev',.bool true,.int .i64 (g'.steps:Nat)],.agg #[.int .i64 0,.int .i64 0]])∧Below w.heap.size w w'∧OwnL EvIs w' w.heap.size 52 3 ev' g'.evs:=by
 have hmf:=mkF
 obtain⟨n,hnn⟩:∃n,n=lists.length:=⟨_,rfl⟩
 obtain⟨w1,hw1⟩:∃w1,w1=w.alloc (.cells #[cv,av,nv,qv] 27):=⟨_,rfl⟩
 obtain⟨w2,hw2⟩:∃w2,w2=w1.alloc (.cells #[.slice none 0 0,.bool false,.int .i64 0] 43):=⟨_,rfl⟩
 obtain⟨w3,hw3⟩:∃w3,w3=w2.alloc (.cells #[.int .i64 0,.int .i64 0] 45):=⟨_,rfl⟩
 have hs1:w1.heap.size=w.heap.size+1:=by rw[hw1];simp
 have hs2:w2.heap.size=w.heap.size+2:=by rw[hw2];simp[hs1]
 have hs3:w3.heap.size=w.heap.size+3:=by rw[hw3];simp[hs2]
 have hb3:Below w.heap.size w w3:=bu (al1 hw1) (bu (al1 hw2) (al1 hw3))
 have hpb3:w3.heap[w.heap.size]? =some (.cells #[cv,av,nv,qv] 27 (0,0)):=ku (al1 hw3) (ku (al1 hw2) (aa hw1))
 have htb3:w3.heap[w.heap.size+1]? =some (.cells #[.slice none 0 0,.bool false,.int .i64 0] 43 (0,0)):=by rw[←hs1];exact ku (al1 hw3) (aa hw2)
 have hfb3:w3.heap[w.heap.size+2]? =some (.cells #[.int .i64 0,.int .i64 0] 45 (0,0)):=by rw[←hs2];exact aa hw3
 have hcW:=wrongC (w:=w3) (pb:=w.heap.size) (lv:=.slice (some ⟨ib,ioff,none⟩) lists.length ic) hpb3 hf (fun W hW=>scopeC ((hp.keeps (Keeps.of_below (bu hb3 hW))).mono fun b hb _=>by have:=(bu hb3 hW).size;omega) ((hl.keeps (bu hb3 hW).size fun b hb=>(bu hb3 hW).block b hb).mono (bu hb3 hW).size) hOK) (fun W hW=>hI W (bu hb3 hW))
 rw[←hnn] at hcW⊢
 have HB3:Hid (Below w.heap.size w w3∧w3.heap.size=w.heap.size+3):=⟨hb3,hs3⟩
 have HK3:Hid (w3.heap[w.heap.size]? =some (.cells #[cv,av,nv,qv] 27 (0,0))∧w3.heap[w.heap.size+1]? =some (.cells #[.slice none 0 0,.bool false,.int .i64 0] 43 (0,0))∧w3.heap[w.heap.size+2]? =some (.cells #[.int .i64 0,.int .i64 0] 45 (0,0))):=⟨hpb3,htb3,hfb3⟩
 have HP8:Hid (∀(w5 w6 w8:World) (lb lc:Nat) (cur:Array Value) (news:List Value),Below w.heap.size w w5→w.heap.size+3≤w5.heap.size→w5.heap[w.heap.size]? =some (.cells #[cv,av,nv,qv] 27 (0,0))→Below w5.heap.size w5 w6→w5.heap.size≤lb→w6.heap[lb]? =some (.cells cur 48 (0,0))→n≤lc→lc≤maxLen→cur.toList.take (n*1)=news→(∀i (h:i<lists.length),∃x c,news[i]? =some (.slice x lists[i].length c)∧lists[i].length≤c∧LiIs w w.heap.size x lists[i])→w8=(w6.alloc (.cells #[.slice none 0 0,.bool false,.int .i64 0,.pointer (some ⟨w.heap.size,0,none⟩),.slice (some ⟨lb,0,none⟩) n lc,.int .i64 (fuel:Nat)] 64)).alloc (.cells #[.pointer (some ⟨w6.heap.size,0,none⟩)] 61)→Rc w8 w.heap.size w6.heap.size w.heap.size lb fuel lc P cv av nv qv (.slice none 0 0) ⟨0,[],lists⟩∧w8.heap[w6.heap.size+1]? =some (.cells #[.pointer (some ⟨w6.heap.size,0,none⟩)] 61 (0,0))):=by
  subst hnn
  intro w5 w6 w8 lb lc cur news g1 g2 g3 g4 g5 g6 g7 g8 g9 g10 g11
  exact run_rc hp hl ⟨hOK.few.1,by have:=hOK.few.2;omega⟩ hf g1 g2 g3 g4 g5 g6 g7 g8 g9 g10 g11
 have HCL:Hid (∀W,Below w.heap.size w W→Calls Tryz.prog 19 #[.slice (some ⟨ib,ioff,none⟩) n ic] W fun e w'=>∃lb lc cur news,e=.returned (.slice (some ⟨lb,0,none⟩) n lc)∧Hid (W.heap.size≤lb∧w'.heap[lb]? =some (.cells cur 48 (0,0))∧n≤lc∧lc≤maxLen∧cur.toList.take (n*1)=news∧(∀i (h:i<lists.length),∃x c,news[i]? =some (.slice x lists[i].length c)∧lists[i].length≤c∧LiIs w w.heap.size x lists[i])∧Below W.heap.size W w')):=by
  subst hnn
  intro W hW
  obtain⟨f,hfx⟩:∃f:Fin lists.length→Option Addr×Nat,∀i,w.cell? ⟨ib,ioff+i.1,none⟩=some (.slice (f i).1 lists[i.1].length (f i).2)∧lists[i.1].length≤(f i).2∧LiIs w w.heap.size (f i).1 lists[i.1]:=by
   have h1:∀i:Fin lists.length,∃p:Option Addr×Nat,w.cell? ⟨ib,ioff+i.1,none⟩=some (.slice p.1 lists[i.1].length p.2)∧lists[i.1].length≤p.2∧LiIs w w.heap.size p.1 lists[i.1]:=fun i=>by
    obtain⟨x,c,h⟩:=hli i.1 i.2
    exact⟨(x,c),h⟩
   exact⟨fun i=>(h1 i).choose,fun i=>(h1 i).choose_spec⟩
  obtain⟨news,hnews⟩:∃news:List Value,news=List.ofFn fun i:Fin lists.length=>Value.slice (f i).1 lists[i.1].length (f i).2:=⟨_,rfl⟩
  have hnl:news.length=lists.length*1:=by rw[hnews];simp
  have hg:∀i (h:i<lists.length),news[i]? =some (.slice (f ⟨i,h⟩).1 lists[i].length (f ⟨i,h⟩).2):=fun i h=>by rw[hnews];simp[h]
  have h1:=cloneLi ⟨ib,ioff,none⟩ lists.length ic news W hnl hn2 (fun j u hu=>by
   have hj:j<lists.length:=by
    rcases Nat.lt_or_ge j lists.length with h | h
    ·exact h
    ·rw[List.getElem?_eq_none (by omega)] at hu
     cases hu
   rw[hg j hj] at hu
   cases hu
   rw[show(⟨ib,ioff,none⟩:Addr).add j=⟨ib,ioff+j,none⟩ by simp[Addr.add]]
   exact(hW.cell (p:=⟨ib,ioff+j,none⟩) hib).trans (hfx ⟨j,hj⟩).1) (fun u hu=>by
   rw[hnews,List.mem_ofFn] at hu
   obtain⟨i,rfl⟩:=hu
   rfl)
  refine h1.mono ?_
  rintro e w' ⟨v,rfl,⟨_,hv⟩,hb⟩
  rcases hv with⟨_,h0⟩|⟨lb,lc,cur,rfl,k1,k2,k3,k4,_,k6⟩
  ·omega
  ·exact⟨lb,lc,cur,news,rfl,k1,k2,k3,k4,k6,fun i h=>⟨_,_,hg i h,(hfx ⟨i,h⟩).2⟩,hb⟩
 have HPG:Hid (∀(W:World) (lb lc:Nat) (rb bb:Nat),Rc W w.heap.size rb w.heap.size lb fuel lc P cv av nv qv (.slice none 0 0) ⟨0,[],lists⟩→W.heap[bb]? =some (.cells #[.pointer (some ⟨rb,0,none⟩)] 61 (0,0))→bb≠rb→bb≠lb→∀W2,Below W.heap.size W W2→Calls Tryz.prog 20 #[.func (.func 21) #[] #[.pointer (some ⟨bb,0,none⟩)]] W2 fun x w'=>x=.returned (.bool true)∧Hid (∃ev',RS w' w.heap.size rb w.heap.size lb fuel lc ev' g'∧Kr rb lb (.slice none 0 0) ev' W w')):=fun W lb lc rb bb hR hbb h1 h2 W2 hW=>by
  have h3:=endsC (bb:=bb) (program1C (hR.bel hW).1 (ku hW hbb) ⟨h1,h2,fun e=>by cases e⟩ hq hpz hbl hs)
  refine h3.mono ?_
  rintro x w' ⟨rfl,ev',h4,h5⟩
  exact⟨rfl,ev',h4,(hR.bel hW).2.trans h5⟩
 clear hp hl hOK hf hn hn2 hli hib hI hq hpz hbl hs hnn hb3 hs3 hpb3 htb3 hfb3
 go_enter Tryz.func15,Tryz.ntmps15
 go_wp2_with fail
 rw[←hw1,←hw2,←hw3]
 refine hcW.mono ?_
 rintro x w4 ⟨rfl,hb4⟩
 clear hcW hw1 hw2 hw3 hs1 hs2
 obtain⟨w5,hw5⟩:∃w5,w5=(w4.setCell ⟨w.heap.size+2,0,none⟩ (.int .i64 0)).setCell ⟨w.heap.size+2,1,none⟩ (.int .i64 0):=⟨_,rfl⟩
 have HB4:=hidq (bu HB3.out.1 hb4)
 have HS4:Hid (w.heap.size+3≤w4.heap.size):=by have h1:=hb4.size;have h2:=HB3.out.2;show _≤_;omega
 have hfb4:=ku hb4 HK3.out.2.2
 have HF4:=hidq hfb4
 have htb4:=ku hb4 HK3.out.2.1
 have hpb4:=ku hb4 HK3.out.1
 have HB5:Hid (Below w.heap.size w w5):=by rw[hw5];exact(HB4.out.setCell (by simp) _).setCell (by simp) _
 have HS5:Hid (w5.heap.size=w4.heap.size):=by rw[hw5];simp[World.setCell,Hid]
 have HK5:Hid (w5.heap[w.heap.size]? =some (.cells #[cv,av,nv,qv] 27 (0,0))∧w5.heap[w.heap.size+1]? =some (.cells #[.slice none 0 0,.bool false,.int .i64 0] 43 (0,0))∧w5.heap[w.heap.size+2]? =some (.cells #[.int .i64 0,.int .i64 0] 45 (0,0))):=by
  refine⟨?_,?_,?_⟩
  ·rw[hw5,Below.heap_setCell _ _ _ _ (by simp),Below.heap_setCell _ _ _ _ (by simp)];exact hpb4
  ·rw[hw5,Below.heap_setCell _ _ _ _ (by simp),Below.heap_setCell _ _ _ _ (by simp)];exact htb4
  ·rw[hw5];simp[World.setCell,Array.getElem?_modify,HF4.out]
 have e0:=cl hfb4 0 rfl
 have e1:=cl hfb4 1 rfl
 have z0:=fz hfb4 0
 have z1:=fz hfb4 1
 have f0:=cl HK5.out.2.2 0 rfl
 have fl:=lt_of_block HK5.out.2.2
 clear hfb4 htb4 hpb4 hb4
 go_upto_region 2 with fail
 rw[←hw5]
 clear hw5 e0 e1 z0 z1
 have hcC:=HCL.out w5 HB5.out
 go_wp2_with fail
 refine hcC.mono ?_
 rintro x w6 ⟨lb,lc,cur,news,rfl,H6⟩
 clear hcC f0 fl
 obtain⟨w8,hw8⟩:∃w8,w8=(w6.alloc (.cells #[.slice none 0 0,.bool false,.int .i64 0,.pointer (some ⟨w.heap.size,0,none⟩),.slice (some ⟨lb,0,none⟩) n lc,.int .i64 (fuel:Nat)] 64)).alloc (.cells #[.pointer (some ⟨w6.heap.size,0,none⟩)] 61):=⟨_,rfl⟩
 have H8:Hid (Rc w8 w.heap.size w6.heap.size w.heap.size lb fuel lc P cv av nv qv (.slice none 0 0) ⟨0,[],lists⟩∧w8.heap[w6.heap.size+1]? =some (.cells #[.pointer (some ⟨w6.heap.size,0,none⟩)] 61 (0,0))):=by
  obtain⟨k1,k2,k3,k4,k5,k6,k7⟩:=H6.out
  exact HP8.out w5 w6 w8 lb lc cur news HB5.out (by have h1:=HS5.out;have h2:=HS4.out;omega) HK5.out.1 k7 k1 k2 k3 k4 k5 k6 hw8
 have HZ:Hid (w.heap.size+3≤w5.heap.size∧w5.heap.size≤w6.heap.size∧w5.heap.size≤lb∧lb<w6.heap.size∧w8.heap.size=w6.heap.size+2∧Below w5.heap.size w5 w8):=by
  obtain⟨k1,k2,k3,k4,k5,k6,k7⟩:=H6.out
  refine⟨by have h1:=HS5.out;have h2:=HS4.out;omega,k7.size,k1,lt_of_block k2,by rw[hw8];simp,bu k7 ?_⟩
  rw[hw8];exact((Below.refl _ _).alloc (Nat.le_refl _) _).alloc (by simp) _
 have HE:=hidq (HPG.out w8 lb lc w6.heap.size (w6.heap.size+1) H8.out.1 H8.out.2 (by omega) (by have:=HZ.out.2.2.2.1;omega))
 have HN9:Hid (∀w9,(∃ev',RS w9 w.heap.size w6.heap.size w.heap.size lb fuel lc ev' g'∧Kr w6.heap.size lb (.slice none 0 0) ev' w8 w9)→∃ev',w9.cell? ⟨w6.heap.size,0,none⟩=some ev'∧w9.cell? ⟨w6.heap.size,1,none⟩=some (.bool false)∧w9.frozen? ⟨w6.heap.size,1,none⟩=false∧w9.cell? ⟨w6.heap.size+1,0,none⟩=some (.pointer (some ⟨w6.heap.size,0,none⟩))∧w6.heap.size<w9.heap.size∧w6.heap.size+1<w9.heap.size∧Hid (w9.heap[w.heap.size+1]? =some (.cells #[.slice none 0 0,.bool false,.int .i64 0] 43 (0,0))∧w9.heap[w.heap.size+2]? =some (.cells #[.int .i64 0,.int .i64 0] 45 (0,0))∧(∃x3 x4 x5 e,w9.heap[w6.heap.size]? =some (.cells #[ev',.bool false,.int .i64 (g'.steps:Nat),x3,x4,x5] e (0,0)))∧OwnL EvIs w9 w.heap.size 52 3 ev' g'.evs∧(∀k,ev'.ownBlock=some k→k≠w6.heap.size∧w8.heap.size≤k)∧Below w.heap.size w w9)):=fun w9 ⟨ev',hr,hk⟩=>by
  obtain⟨y1,y2,y3,y4,y5,y6⟩:=HZ.out
  have hkp:∀b,b≠w6.heap.size→b≠lb→b<w8.heap.size→w9.heap[b]? =w8.heap[b]? :=fun b h1 h2 h3=>hk.kp.block b ⟨h1,h2,fun e=>by cases e⟩ h3
  have hbb:=(hkp (w6.heap.size+1) (by omega) (by omega) (by omega)).trans H8.out.2
  have htb:=((hkp (w.heap.size+1) (by omega) (by omega) (by omega)).trans (y6.block _ (by omega))).trans HK5.out.2.1
  have hfb:=((hkp (w.heap.size+2) (by omega) (by omega) (by omega)).trans (y6.block _ (by omega))).trans HK5.out.2.2
  have hb8:=bu HB5.out y6
  refine⟨ev',cl hr.blk 0 rfl,cl hr.blk 1 rfl,fz hr.blk 1,cl hbb 0 rfl,lt_of_block hr.blk,lt_of_block hbb,htb,hfb,⟨_,_,_,_,hr.blk⟩,hr.evs,fun k hk'=>⟨(hr.eb k hk').1,?_⟩,?_⟩
  ·rcases hk.ev k hk' with h | h
   ·cases h
   ·exact h
  ·exact⟨hk.sm.os.trans hb8.os,hk.sm.tape.trans hb8.tape,hk.sm.out.trans hb8.output,Nat.le_trans hb8.size hk.kp.size,fun b hb=>(hkp b (by omega) (by omega) (by omega)).trans (hb8.block b hb)⟩
 have e0:=cl H8.out.2 0 rfl
 have el:=lt_of_block H8.out.2
 go_upto_region 5 with fail
 rw[←hw8]
 clear hw8
 go_region_held3 (fun W=>W.cell? ⟨w6.heap.size+1,0,none⟩=some (.pointer (some ⟨w6.heap.size,0,none⟩))) (go_keep)
  (first
    |(go_at_call 20;refine(HE.out _ (by exact⟨rfl,rfl,rfl,Nat.le_refl _,fun _ _=>rfl⟩)).mono ?_;rintro x w9 ⟨rfl,H9⟩;obtain⟨ev',c0,c1,c2,c3,c4,c5,H9⟩:=HN9.out w9 H9.out))
 obtain⟨w10,hw10⟩:∃w10,w10=w9.setCell ⟨w6.heap.size,1,none⟩ (.bool true):=⟨_,rfl⟩
 rw[←hw10]
 obtain⟨st,hst⟩:∃n:Nat,n=g'.steps:=⟨_,rfl⟩
 have HST:=hidq hst
 have H10:Hid (w10.heap[w.heap.size+1]? =some (.cells #[.slice none 0 0,.bool false,.int .i64 0] 43 (0,0))∧w10.heap[w.heap.size+2]? =some (.cells #[.int .i64 0,.int .i64 0] 45 (0,0))∧(∃x3 x4 x5 e,w10.heap[w6.heap.size]? =some (.cells #[ev',.bool true,.int .i64 (st:Nat),x3,x4,x5] e (0,0)))∧OwnL EvIs w10 w.heap.size 52 3 ev' g'.evs∧(∀k,ev'.ownBlock=some k→k≠w6.heap.size∧w.heap.size+3≤k)∧Below w.heap.size w w10):=by
  obtain⟨y1,y2,y3,y4,y5,y6⟩:=HZ.out
  obtain⟨k1,k2,⟨x3,x4,x5,e,k3⟩,k4,k5,k6⟩:=H9.out
  obtain⟨css,h1,h2,h3⟩:=k4.ex
  refine⟨?_,?_,⟨x3,x4,x5,e,?_⟩,⟨css,own_kept2 h1 fun k hk=> ?_,h2,h3⟩,fun k hk=>⟨(k5 k hk).1,by have:=(k5 k hk).2;omega⟩,?_⟩
  ·rw[hw10,Below.heap_setCell _ _ _ _ (by simp;omega)];exact k1
  ·rw[hw10,Below.heap_setCell _ _ _ _ (by simp;omega)];exact k2
  ·rw[hw10,hst];simp[World.setCell,Array.getElem?_modify,k3]
  ·rw[hw10];exact Below.heap_setCell _ _ _ _ (k5 k hk).1
  ·rw[hw10];exact k6.setCell (by simp;omega) _
 obtain⟨eo,ec,rfl⟩:=H10.out.2.2.2.1.slice
 obtain⟨en,hen⟩:∃n,n=g'.evs.length:=⟨_,rfl⟩
 rw[←hen] at H10
 have HEN:=hidq hen
 have bx:w10.cell? ⟨w6.heap.size+1,0,none⟩=some (.pointer (some ⟨w6.heap.size,0,none⟩)):=by
  rw[hw10]
  exact(World.cell?_of_block (a:=⟨w6.heap.size+1,0,none⟩) (Below.heap_setCell _ _ _ _ (by simp))).trans c3
 have bl:w6.heap.size+1<w10.heap.size:=by rw[hw10];simpa[World.setCell] using c5
 clear hw10 c0 c1 c2 c3 c4 c5 H9 HN9 HE e0 el hst hen
 have q0:=cl H10.out.1 0 rfl
 have q1:=cl H10.out.1 1 rfl
 have q2:=cl H10.out.1 2 rfl
 have z0:=fz H10.out.1 0
 have z1:=fz H10.out.1 1
 have z2:=fz H10.out.1 2
 have p0:=cl H10.out.2.1 0 rfl
 have p1:=cl H10.out.2.1 1 rfl
 have y0:=fz H10.out.2.1 0
 have y1:=fz H10.out.2.1 1
 obtain⟨r0,r1,r2,rl⟩:w10.cell? ⟨w6.heap.size,0,none⟩=some (.slice eo en ec)∧w10.cell? ⟨w6.heap.size,1,none⟩=some (.bool true)∧w10.cell? ⟨w6.heap.size,2,none⟩=some (.int .i64 (st:Nat))∧w6.heap.size<w10.heap.size:=by
  obtain⟨_,_,⟨x3,x4,x5,e,k3⟩,_⟩:=H10.out
  exact⟨cl k3 0 rfl,cl k3 1 rfl,cl k3 2 rfl,lt_of_block k3⟩
 clear HPG HP8 HCL
 go_wp2
 obtain⟨w11,hw11⟩:∃w11,w11=((((w10.setCell ⟨w.heap.size+1,0,none⟩ (.slice eo en ec)).setCell ⟨w.heap.size+1,1,none⟩ (.bool true)).setCell ⟨w.heap.size+1,2,none⟩ (.int .i64 (st:Nat))).setCell ⟨w.heap.size+1+1,0,none⟩ (.int .i64 0)).setCell ⟨w.heap.size+1+1,1,none⟩ (.int .i64 0):=⟨_,rfl⟩
 rw[←hw11]
 obtain⟨k1,k2,_,⟨css,h1,h2,h3⟩,k5,k6⟩:=H10.out
 have ha:∀b,b≠w.heap.size+1→b≠w.heap.size+2→w11.heap[b]? =w10.heap[b]? :=fun b g1 g2=>by
  rw[hw11]
  iterate 2 rw[Below.heap_setCell _ _ _ _ g2]
  iterate 3 rw[Below.heap_setCell _ _ _ _ g1]
 have hb:w11.heap[w.heap.size+1]? =some (.cells #[.slice eo en ec,.bool true,.int .i64 (st:Nat)] 43 (0,0)):=by
  rw[hw11]
  iterate 2 rw[Below.heap_setCell _ _ _ _ (by simp)]
  simp[World.setCell,Array.getElem?_modify,k1]
 have hc:w11.heap[w.heap.size+1+1]? =some (.cells #[.int .i64 0,.int .i64 0] 45 (0,0)):=by
  rw[hw11]
  simp[World.setCell,Array.getElem?_modify,k2]
 have hB:Below w.heap.size w w11:=by
  rw[hw11]
  iterate 5 refine Below.setCell ?_ (by simp<;>omega) _
  exact k6
 have a0:=cl hb 0 rfl
 have a1:=cl hb 1 rfl
 have a2:=cl hb 2 rfl
 have b0:=cl hc 0 rfl
 have b1:=cl hc 1 rfl
 refine bodyPost_ret (v:=.tuple #[.agg #[.slice eo en ec,.bool true,.int .i64 (st:Nat)],.agg #[.int .i64 0,.int .i64 0]]) ?_ rfl ⟨.slice eo en ec,?_,hB,⟨css,own_kept2 h1 fun k hk=>ha k (by have:=(k5 k hk).2;omega) (by have:=(k5 k hk).2;omega),h2,h3⟩⟩
 ·simp[results,Tryz.results15,go_sem,a0,a1,a2,b0,b1]
 ·rw[HST.out]
theorem inputs_of {W:World}{S:Nat→Prop}{P:Prg}{cv av nv qv:Value}(hp:PgIs W S P [cv,av,nv,qv]){ao:Option Addr}{ab aoff ac:Nat}{ns:List Nat}(hm:ns.length≤maxLen)(hi:InR W ao ab aoff ns):
 Calls Tryz.prog 7 #[.agg #[cv,av,nv,qv],.slice ao ns.length ac] W fun x w'=>x=.returned (.int .i64 (inpF ns (P.chans.map fun c=>c.inw)))∧Below W.heap.size W w':=by
 obtain⟨_,_,_,_,hcs,_,_,⟨css,⟨no,b,off,c,rfl,hr⟩,hc1,hk⟩,_⟩:=hp
 simp only[List.cons.injEq,and_true] at hcs
 obtain⟨rfl,rfl,rfl,rfl⟩:=hcs
 have h1:=inputsC (cv:=cv) (av:=av) (qv:=qv) (ac:=ac) (cc:=c) (co:=no) (cb:=b) (coff:=off) (bs:=P.chans.map fun c=>c.inw) hm hi ⟨fun h=>hr.adr (by simp at h;omega),fun i h=>by
  have hi2:i<P.chans.length:=by simpa using h
  obtain⟨lv,h3,_⟩:=hk i hi2 (by omega)
  have:=hr.cell i (by omega) 2 _ (by rw[h3];rfl)
  simpa using this,fun h=>hr.lt (by simp at h;omega)⟩
 rw[show(P.chans.map fun c=>c.inw).length=css.length by simp;omega] at h1
 exact h1
def ranLists:List (List Int):=[[],[2],[],[]]
theorem ran_runC {w0 w:World}{ls lb:Nat}{j0:Option Addr}{m0 d0:Nat}{j1:Option Addr}{m1 d1:Nat}{j2:Option Addr}{m2 d2:Nat}{j3:Option Addr}{m3 d3:Nat}(hl:LevAt w0 w0.heap.size)(hb:Below w0.heap.size w0 w)(hp:PgIs w (fun b=>w0.heap.size≤b) ranP [.slice j0 m0 d0,.slice j1 m1 d1,.slice j2 m2 d2,.slice j3 m3 d3])
 (h1:w.heap[lb]? =some (.cells #[.int .i64 2] 3 (0,0))) (h2:w.heap[ls]? =some (.cells #[.slice none 0 0,.slice (some ⟨lb,0,none⟩) 1 1,.slice none 0 0,.slice none 0 0] 48 (0,0))):
 Calls Tryz.prog 15 #[.agg #[.slice j0 m0 d0,.slice j1 m1 d1,.slice j2 m2 d2,.slice j3 m3 d3],.slice (some ⟨ls,0,none⟩) 4 4,.int .i64 500] w fun x w'=>∃(eo:Option Addr) (ec st:Nat),x=.returned (.tuple #[.agg #[.slice eo 2 ec,.bool true,.int .i64 (st:Nat)],.agg #[.int .i64 0,.int .i64 0]])∧Hid (Below w.heap.size w w')∧∃eb,eo=some ⟨eb,0,none⟩∧eb<w'.heap.size∧2≤ec∧w'.cell? ⟨eb,1,none⟩=some (.int .i64 4)∧w'.cell? ⟨eb,4,none⟩=some (.int .i64 2):=by
 obtain⟨q,env',back',g',hq,hpz,hbl,hs,hev⟩:=ran_run
 have hlt1:=lt_of_block h1
 have hlt2:=lt_of_block h2
 have c2:=cl h1 0 rfl
 have hpw:PgIs w (fun b=>b<w.heap.size) ranP [.slice j0 m0 d0,.slice j1 m1 d1,.slice j2 m2 d2,.slice j3 m3 d3]:=hp.mono fun b _ h=>h
 have hlw:LevAt w w.heap.size:=(hl.keeps hb.size fun b hb'=>hb.block b hb').mono hb.size
 have hnil:LiIs w w.heap.size none []:=.inl rfl
 have htwo:LiIs w w.heap.size (some ⟨lb,0,none⟩) [2]:=.inr ⟨lb,0,rfl,hlt1,fun i hi=>by
  simp at hi
  subst hi
  exact c2⟩
 have hli:∀i (h:i<ranLists.length),∃x c,w.cell? ⟨ls,0+i,none⟩=some (.slice x ranLists[i].length c)∧ranLists[i].length≤c∧LiIs w w.heap.size x ranLists[i]:=fun i h=>by
  match i,h with
  | 0,_=>exact⟨none,0,cl h2 0 rfl,Nat.le_refl _,hnil⟩
  | 1,_=>exact⟨some ⟨lb,0,none⟩,1,cl h2 1 rfl,Nat.le_refl _,htwo⟩
  | 2,_=>exact⟨none,0,cl h2 2 rfl,Nat.le_refl _,hnil⟩
  | 3,_=>exact⟨none,0,cl h2 3 rfl,Nat.le_refl _,hnil⟩
 have hI:∀W,Below w.heap.size w W→Calls Tryz.prog 7 #[.agg #[.slice j0 m0 d0,.slice j1 m1 d1,.slice j2 m2 d2,.slice j3 m3 d3],.slice (some ⟨ls,0,none⟩) ranLists.length 4] W fun x w'=>x=.returned (.int .i64 0)∧Below W.heap.size W w':=fun W hW=>by
  have hk:=ku hW h2
  have h3:=inputs_of (ns:=[0,1,0,0]) (ao:=some ⟨ls,0,none⟩) (ab:=ls) (aoff:=0) (ac:=4) (hpw.keeps (Keeps.of_below hW)) (by simp[maxLen]) ⟨fun _=>rfl,fun i h=>by
   match i,h with
   | 0,_=>exact⟨none,0,cl hk 0 rfl⟩
   | 1,_=>exact⟨some ⟨lb,0,none⟩,1,cl hk 1 rfl⟩
   | 2,_=>exact⟨none,0,cl hk 2 rfl⟩
   | 3,_=>exact⟨none,0,cl hk 3 rfl⟩,fun _=>lt_of_block hk⟩
  rw[ran_inp] at h3
  exact h3
 have h4:=runC (w:=w) (fuel:=500) (ioff:=0) (ic:=4) (lists:=ranLists) hpw hlw ran_ok (by omega) (by simp[ranLists]) (by simp[ranLists]) hli hlt2 hI hq hpz hbl hs
 refine h4.mono ?_
 rintro x w' ⟨ev',rfl,hB,hO⟩
 obtain⟨css,k1,k2,k3⟩:=hO.ex
 rw[hev] at k1 k2
 simp only[List.length_cons,List.length_nil] at k1 k2
 rcases k1.2 with⟨_,h0⟩|⟨g,cap,cur,rfl,g1,g2,g3,g4,g5,g6⟩
 ·omega
 ·obtain⟨a,b,rfl⟩:∃a b,css=[a,b]:=by
   match css,k2 with
   |[a,b],_=>exact⟨a,b,rfl⟩
  obtain⟨s1,l1,e1,_⟩:=k3 0 (by rw[hev];simp) (by simp)
  obtain⟨s2,l2,e2,_⟩:=k3 1 (by rw[hev];simp) (by simp)
  simp only[hev,List.getElem_cons_zero,List.getElem_cons_succ] at e1 e2
  subst e1 e2
  have hc:∀i u,([.string s1,.int .i64 4,l1,.string s2,.int .i64 2,l2]:List Value)[i]? =some u→w'.cell? ⟨g,i,none⟩=some u:=fun i u hu=>by
   have h6:i<6:=by
    rcases Nat.lt_or_ge i 6 with h | h
    ·exact h
    ·rw[List.getElem?_eq_none (by simpa using h)] at hu
     cases hu
   have h7:cur.toList[i]? =some u:=by
    rw[←List.getElem?_take_of_lt (show i<(0+1+1)*3 by omega),g6]
    exact hu
   simp[World.cell?,g2]
   simpa using h7
  exact⟨some ⟨g,0,none⟩,cap,g'.steps,rfl,hB,g,rfl,lt_of_block g2,by omega,hc 1 _ rfl,hc 4 _ rfl⟩
theorem ranC {w:World}(hl:LevAt w w.heap.size):Calls Tryz.prog 6 #[] w fun x w'=>x=.returned (.bool true)∧Below w.heap.size w w':=by
 have hpc:=progC hl
 have HL:=hidq hl
 clear hl
 go_enter Tryz.func6,Tryz.ntmps6
 go_wp2_with fail
 refine hpc.mono ?_
 rintro x w1 ⟨j0,m0,d0,j1,m1,d1,j2,m2,d2,j3,m3,d3,rfl,hp,hb1⟩
 have HP:=hidq hp
 have HB1:=hidq hb1
 clear hpc hp hb1
 obtain⟨w2,hw2⟩:∃w2,w2=w1.alloc (.cells #[.slice j0 m0 d0,.slice j1 m1 d1,.slice j2 m2 d2,.slice j3 m3 d3] 27):=⟨_,rfl⟩
 have hk2:=aa hw2
 have e0:=cl hk2 0 rfl
 have e1:=cl hk2 1 rfl
 have e2:=cl hk2 2 rfl
 have e3:=cl hk2 3 rfl
 have el:=lt_of_block hk2
 have hb2:=al1 hw2
 have HB2:=hidq hb2
 clear hk2 hb2
 go_upto_region 2 with fail
 rw[←hw2]
 clear hw2
 go_wp2_with fail
 obtain⟨w4,hw4⟩:∃w4,w4=(w2.alloc (.cells #[.int .i64 2] 3)).alloc (.cells #[.slice none 0 0,.slice (some ⟨w2.heap.size,0,none⟩) 1 1,.slice none 0 0,.slice none 0 0] 48):=⟨_,rfl⟩
 rw[←hw4]
 have hb4:Below w2.heap.size w2 w4:=by rw[hw4];exact((Below.refl _ _).alloc (Nat.le_refl _) _).alloc (by simp) _
 have hrun:=ran_runC (w0:=w) (w:=w4) (ls:=w2.heap.size+1) (lb:=w2.heap.size) HL.out (bu HB1.out (bu HB2.out hb4)) (HP.out.keeps (Keeps.of_below (bu HB2.out hb4))) (by rw[hw4];exact heap_past_alloc (heap_at_alloc _ _ _ rfl)) (by rw[hw4];exact heap_at_alloc _ _ _ (by simp))
 have HB4:=hidq (bu HB1.out (bu HB2.out hb4))
 clear hw4 hb4 e0 e1 e2 e3 el
 refine hrun.mono ?_
 rintro x w5 ⟨eo,ec,st,rfl,HB5,eb,rfl,h1,h2,h3,h4⟩
 clear hrun
 obtain⟨w6,hw6⟩:∃w6,w6=(w5.alloc (.cells #[.slice (some ⟨eb,0,none⟩) 2 ec,.bool true,.int .i64 (st:Nat)] 43)).alloc (.cells #[.int .i64 0,.int .i64 0] 45):=⟨_,rfl⟩
 have hb6:Below w5.heap.size w5 w6:=by rw[hw6];exact((Below.refl _ _).alloc (Nat.le_refl _) _).alloc (by simp) _
 have ht:w6.heap[w5.heap.size]? =some (.cells #[.slice (some ⟨eb,0,none⟩) 2 ec,.bool true,.int .i64 (st:Nat)] 43 (0,0)):=by rw[hw6];exact heap_past_alloc (heap_at_alloc _ _ _ rfl)
 have hf:w6.heap[w5.heap.size+1]? =some (.cells #[.int .i64 0,.int .i64 0] 45 (0,0)):=by rw[hw6];exact heap_at_alloc _ _ _ (by simp)
 have t0:=cl ht 0 rfl
 have t1:=cl ht 1 rfl
 have tl:=lt_of_block ht
 have f0:=cl hf 0 rfl
 have fl:=lt_of_block hf
 have v1:=(hb6.cell (p:=⟨eb,1,none⟩) h1).trans h3
 have v4:=(hb6.cell (p:=⟨eb,4,none⟩) h1).trans h4
 have vl:eb<w6.heap.size:=Nat.lt_of_lt_of_le h1 hb6.size
 have HB6:=hidq (bu HB4.out (bu HB5.out hb6))
 clear hb6 ht hf h1 h3 h4
 go_upto_region 3 with fail
 rw[←hw6]
 clear hw6
 go_wp2
 go_ret
 exact⟨rfl,HB6.out⟩
open Par (levF ba)
theorem w64_ex (n:Int):∃k,Rr.w64 n=n+18446744073709551616*k:=by
 refine⟨-((n+9223372036854775808) / 18446744073709551616),?_⟩
 unfold Rr.w64
 have:=Int.mul_ediv_add_emod (n+9223372036854775808) 18446744073709551616
 omega
theorem w64_in {n:Int}(h1: -9223372036854775808≤n)(h2:n<9223372036854775808):Rr.w64 n=n:=by
 unfold Rr.w64
 rw[Int.emod_eq_of_lt (by omega) (by omega)]
 omega
theorem w64_add (n k:Int):Rr.w64 (n+18446744073709551616*k)=Rr.w64 n:=by
 unfold Rr.w64
 rw[show n+18446744073709551616*k+9223372036854775808=n+9223372036854775808+18446744073709551616*k by omega,Int.add_mul_emod_self_left]
theorem rem_is {a b:Int}(hb:b≠0)(b1: -9223372036854775808≤b)(b2:b<9223372036854775808):Rr.w64 (a - Rr.w64 (b*Rr.w64 (a.tdiv b)))=a.tmod b:=by
 obtain⟨k1,e1⟩:=w64_ex (a.tdiv b)
 obtain⟨k2,e2⟩:=w64_ex (b*Rr.w64 (a.tdiv b))
 rw[e2,e1]
 have e3:a - (b*(a.tdiv b+18446744073709551616*k1)+18446744073709551616*k2)=a.tmod b+18446744073709551616*(-(b*k1) - k2):=by
  have:=Int.tmod_add_mul_tdiv a b
  rw[Int.mul_add,Int.mul_sub,←Int.mul_assoc b,Int.mul_comm b 18446744073709551616,Int.mul_assoc]
  omega
 rw[e3,w64_add]
 have h1:=Int.natAbs_tmod a b
 have h2:=Nat.mod_lt a.natAbs (show 0<b.natAbs by omega)
 refine w64_in ?_ ?_<;>omega
theorem wrap_w (n:Int):wrap64 n=Rr.w64 n:=by unfold wrap64 Rr.w64;rfl
theorem isC (b:Bool)(w:World):Calls Tryz.prog 13 #[.bool b] w fun x w'=>x=.returned (.tuple #[.int .i64 (Rr.bitI b),.int .i64 0])∧w'=w:=by
 cases b
 ·go_enter Tryz.func13,Tryz.ntmps13
  go_wp2
  exact bodyPost_ret (v:=.tuple #[.int .i64 0,.int .i64 0]) (by simp[results,Tryz.results13,go_sem]) rfl ⟨rfl,rfl⟩
 ·go_enter Tryz.func13,Tryz.ntmps13
  go_wp2
  exact bodyPost_ret (v:=.tuple #[.int .i64 1,.int .i64 0]) (by simp[results,Tryz.results13,go_sem]) rfl ⟨rfl,rfl⟩
theorem reckD0 (a b:Int)(w:World):Calls Tryz.prog 5 #[.string (ba [124,124]),.int .i64 a,.int .i64 b] w fun x w'=>x=.returned (rkV (Rr.reck [124,124] a b))∧w'=w:=by
 by_cases ha:a=0<;>by_cases hb:b=0
 all_goals
  have e0:((ba [124,124]).toList==[124,124])=true:=by rw[ba_list];decide
  have e1:((ba [124,124]).toList==[38,38])=false:=by rw[ba_list];decide
  have e2:((ba [124,124]).toList==[61,61])=false:=by rw[ba_list];decide
  have e3:((ba [124,124]).toList==[33,61])=false:=by rw[ba_list];decide
  have e4:((ba [124,124]).toList==[60])=false:=by rw[ba_list];decide
  have e5:((ba [124,124]).toList==[60,61])=false:=by rw[ba_list];decide
  have e6:((ba [124,124]).toList==[62])=false:=by rw[ba_list];decide
  have e7:((ba [124,124]).toList==[62,61])=false:=by rw[ba_list];decide
  have e8:((ba [124,124]).toList==[43])=false:=by rw[ba_list];decide
  have e9:((ba [124,124]).toList==[45])=false:=by rw[ba_list];decide
  have e10:((ba [124,124]).toList==[42])=false:=by rw[ba_list];decide
  have e11:((ba [124,124]).toList==[47])=false:=by rw[ba_list];decide
  have e12:((ba [124,124]).toList==[37])=false:=by rw[ba_list];decide
  go_enter Tryz.func5,Tryz.ntmps5
  go_wp2_with fail
  refine(isC _ _).mono ?_
  rintro x w' ⟨rfl,rfl⟩
  go_wp2
  exact bodyPost_ret (v:=rkV (Rr.reck [124,124] a b)) (by simp[results,Tryz.results5,go_sem,rkV,Rr.reck,ha,hb,Rr.bitI]) rfl ⟨rfl,rfl⟩
theorem reckD1 (a b:Int)(w:World):Calls Tryz.prog 5 #[.string (ba [38,38]),.int .i64 a,.int .i64 b] w fun x w'=>x=.returned (rkV (Rr.reck [38,38] a b))∧w'=w:=by
 by_cases ha:a=0<;>by_cases hb:b=0
 all_goals
  have e0:((ba [38,38]).toList==[124,124])=false:=by rw[ba_list];decide
  have e1:((ba [38,38]).toList==[38,38])=true:=by rw[ba_list];decide
  have e2:((ba [38,38]).toList==[61,61])=false:=by rw[ba_list];decide
  have e3:((ba [38,38]).toList==[33,61])=false:=by rw[ba_list];decide
  have e4:((ba [38,38]).toList==[60])=false:=by rw[ba_list];decide
  have e5:((ba [38,38]).toList==[60,61])=false:=by rw[ba_list];decide
  have e6:((ba [38,38]).toList==[62])=false:=by rw[ba_list];decide
  have e7:((ba [38,38]).toList==[62,61])=false:=by rw[ba_list];decide
  have e8:((ba [38,38]).toList==[43])=false:=by rw[ba_list];decide
  have e9:((ba [38,38]).toList==[45])=false:=by rw[ba_list];decide
  have e10:((ba [38,38]).toList==[42])=false:=by rw[ba_list];decide
  have e11:((ba [38,38]).toList==[47])=false:=by rw[ba_list];decide
  have e12:((ba [38,38]).toList==[37])=false:=by rw[ba_list];decide
  go_enter Tryz.func5,Tryz.ntmps5
  go_wp2_with fail
  refine(isC _ _).mono ?_
  rintro x w' ⟨rfl,rfl⟩
  go_wp2
  exact bodyPost_ret (v:=rkV (Rr.reck [38,38] a b)) (by simp[results,Tryz.results5,go_sem,rkV,Rr.reck,ha,hb,Rr.bitI]) rfl ⟨rfl,rfl⟩
theorem reckD2 (a b:Int)(w:World):Calls Tryz.prog 5 #[.string (ba [61,61]),.int .i64 a,.int .i64 b] w fun x w'=>x=.returned (rkV (Rr.reck [61,61] a b))∧w'=w:=by
 have e0:((ba [61,61]).toList==[124,124])=false:=by rw[ba_list];decide
 have e1:((ba [61,61]).toList==[38,38])=false:=by rw[ba_list];decide
 have e2:((ba [61,61]).toList==[61,61])=true:=by rw[ba_list];decide
 have e3:((ba [61,61]).toList==[33,61])=false:=by rw[ba_list];decide
 have e4:((ba [61,61]).toList==[60])=false:=by rw[ba_list];decide
 have e5:((ba [61,61]).toList==[60,61])=false:=by rw[ba_list];decide
 have e6:((ba [61,61]).toList==[62])=false:=by rw[ba_list];decide
 have e7:((ba [61,61]).toList==[62,61])=false:=by rw[ba_list];decide
 have e8:((ba [61,61]).toList==[43])=false:=by rw[ba_list];decide
 have e9:((ba [61,61]).toList==[45])=false:=by rw[ba_list];decide
 have e10:((ba [61,61]).toList==[42])=false:=by rw[ba_list];decide
 have e11:((ba [61,61]).toList==[47])=false:=by rw[ba_list];decide
 have e12:((ba [61,61]).toList==[37])=false:=by rw[ba_list];decide
 go_enter Tryz.func5,Tryz.ntmps5
 go_wp2_with fail
 refine(isC _ _).mono ?_
 rintro x w' ⟨rfl,rfl⟩
 go_wp2
 exact bodyPost_ret (v:=rkV (Rr.reck [61,61] a b)) (by simp[results,Tryz.results5,go_sem,rkV,Rr.reck]) rfl ⟨rfl,rfl⟩
theorem reckD3 (a b:Int)(w:World):Calls Tryz.prog 5 #[.string (ba [33,61]),.int .i64 a,.int .i64 b] w fun x w'=>x=.returned (rkV (Rr.reck [33,61] a b))∧w'=w:=by
 have e0:((ba [33,61]).toList==[124,124])=false:=by rw[ba_list];decide
 have e1:((ba [33,61]).toList==[38,38])=false:=by rw[ba_list];decide
 have e2:((ba [33,61]).toList==[61,61])=false:=by rw[ba_list];decide
 have e3:((ba [33,61]).toList==[33,61])=true:=by rw[ba_list];decide
 have e4:((ba [33,61]).toList==[60])=false:=by rw[ba_list];decide
 have e5:((ba [33,61]).toList==[60,61])=false:=by rw[ba_list];decide
 have e6:((ba [33,61]).toList==[62])=false:=by rw[ba_list];decide
 have e7:((ba [33,61]).toList==[62,61])=false:=by rw[ba_list];decide
 have e8:((ba [33,61]).toList==[43])=false:=by rw[ba_list];decide
 have e9:((ba [33,61]).toList==[45])=false:=by rw[ba_list];decide
 have e10:((ba [33,61]).toList==[42])=false:=by rw[ba_list];decide
 have e11:((ba [33,61]).toList==[47])=false:=by rw[ba_list];decide
 have e12:((ba [33,61]).toList==[37])=false:=by rw[ba_list];decide
 go_enter Tryz.func5,Tryz.ntmps5
 go_wp2_with fail
 refine(isC _ _).mono ?_
 rintro x w' ⟨rfl,rfl⟩
 go_wp2
 exact bodyPost_ret (v:=rkV (Rr.reck [33,61] a b)) (by simp[results,Tryz.results5,go_sem,rkV,Rr.reck]) rfl ⟨rfl,rfl⟩
theorem reckD4 (a b:Int)(w:World):Calls Tryz.prog 5 #[.string (ba [60]),.int .i64 a,.int .i64 b] w fun x w'=>x=.returned (rkV (Rr.reck [60] a b))∧w'=w:=by
 have e0:((ba [60]).toList==[124,124])=false:=by rw[ba_list];decide
 have e1:((ba [60]).toList==[38,38])=false:=by rw[ba_list];decide
 have e2:((ba [60]).toList==[61,61])=false:=by rw[ba_list];decide
 have e3:((ba [60]).toList==[33,61])=false:=by rw[ba_list];decide
 have e4:((ba [60]).toList==[60])=true:=by rw[ba_list];decide
 have e5:((ba [60]).toList==[60,61])=false:=by rw[ba_list];decide
 have e6:((ba [60]).toList==[62])=false:=by rw[ba_list];decide
 have e7:((ba [60]).toList==[62,61])=false:=by rw[ba_list];decide
 have e8:((ba [60]).toList==[43])=false:=by rw[ba_list];decide
 have e9:((ba [60]).toList==[45])=false:=by rw[ba_list];decide
 have e10:((ba [60]).toList==[42])=false:=by rw[ba_list];decide
 have e11:((ba [60]).toList==[47])=false:=by rw[ba_list];decide
 have e12:((ba [60]).toList==[37])=false:=by rw[ba_list];decide
 go_enter Tryz.func5,Tryz.ntmps5
 go_wp2_with fail
 refine(isC _ _).mono ?_
 rintro x w' ⟨rfl,rfl⟩
 go_wp2
 exact bodyPost_ret (v:=rkV (Rr.reck [60] a b)) (by simp[results,Tryz.results5,go_sem,rkV,Rr.reck]) rfl ⟨rfl,rfl⟩
theorem reckD5 (a b:Int)(w:World):Calls Tryz.prog 5 #[.string (ba [60,61]),.int .i64 a,.int .i64 b] w fun x w'=>x=.returned (rkV (Rr.reck [60,61] a b))∧w'=w:=by
 have e0:((ba [60,61]).toList==[124,124])=false:=by rw[ba_list];decide
 have e1:((ba [60,61]).toList==[38,38])=false:=by rw[ba_list];decide
 have e2:((ba [60,61]).toList==[61,61])=false:=by rw[ba_list];decide
 have e3:((ba [60,61]).toList==[33,61])=false:=by rw[ba_list];decide
 have e4:((ba [60,61]).toList==[60])=false:=by rw[ba_list];decide
 have e5:((ba [60,61]).toList==[60,61])=true:=by rw[ba_list];decide
 have e6:((ba [60,61]).toList==[62])=false:=by rw[ba_list];decide
 have e7:((ba [60,61]).toList==[62,61])=false:=by rw[ba_list];decide
 have e8:((ba [60,61]).toList==[43])=false:=by rw[ba_list];decide
 have e9:((ba [60,61]).toList==[45])=false:=by rw[ba_list];decide
 have e10:((ba [60,61]).toList==[42])=false:=by rw[ba_list];decide
 have e11:((ba [60,61]).toList==[47])=false:=by rw[ba_list];decide
 have e12:((ba [60,61]).toList==[37])=false:=by rw[ba_list];decide
 go_enter Tryz.func5,Tryz.ntmps5
 go_wp2_with fail
 refine(isC _ _).mono ?_
 rintro x w' ⟨rfl,rfl⟩
 go_wp2
 exact bodyPost_ret (v:=rkV (Rr.reck [60,61] a b)) (by simp[results,Tryz.results5,go_sem,rkV,Rr.reck,Rr.bitI,Int.not_lt]) rfl ⟨rfl,rfl⟩
theorem reckD6 (a b:Int)(w:World):Calls Tryz.prog 5 #[.string (ba [62]),.int .i64 a,.int .i64 b] w fun x w'=>x=.returned (rkV (Rr.reck [62] a b))∧w'=w:=by
 have e0:((ba [62]).toList==[124,124])=false:=by rw[ba_list];decide
 have e1:((ba [62]).toList==[38,38])=false:=by rw[ba_list];decide
 have e2:((ba [62]).toList==[61,61])=false:=by rw[ba_list];decide
 have e3:((ba [62]).toList==[33,61])=false:=by rw[ba_list];decide
 have e4:((ba [62]).toList==[60])=false:=by rw[ba_list];decide
 have e5:((ba [62]).toList==[60,61])=false:=by rw[ba_list];decide
 have e6:((ba [62]).toList==[62])=true:=by rw[ba_list];decide
 have e7:((ba [62]).toList==[62,61])=false:=by rw[ba_list];decide
 have e8:((ba [62]).toList==[43])=false:=by rw[ba_list];decide
 have e9:((ba [62]).toList==[45])=false:=by rw[ba_list];decide
 have e10:((ba [62]).toList==[42])=false:=by rw[ba_list];decide
 have e11:((ba [62]).toList==[47])=false:=by rw[ba_list];decide
 have e12:((ba [62]).toList==[37])=false:=by rw[ba_list];decide
 go_enter Tryz.func5,Tryz.ntmps5
 go_wp2_with fail
 refine(isC _ _).mono ?_
 rintro x w' ⟨rfl,rfl⟩
 go_wp2
 exact bodyPost_ret (v:=rkV (Rr.reck [62] a b)) (by simp[results,Tryz.results5,go_sem,rkV,Rr.reck]) rfl ⟨rfl,rfl⟩
theorem reckD7 (a b:Int)(w:World):Calls Tryz.prog 5 #[.string (ba [62,61]),.int .i64 a,.int .i64 b] w fun x w'=>x=.returned (rkV (Rr.reck [62,61] a b))∧w'=w:=by
 have e0:((ba [62,61]).toList==[124,124])=false:=by rw[ba_list];decide
 have e1:((ba [62,61]).toList==[38,38])=false:=by rw[ba_list];decide
 have e2:((ba [62,61]).toList==[61,61])=false:=by rw[ba_list];decide
 have e3:((ba [62,61]).toList==[33,61])=false:=by rw[ba_list];decide
 have e4:((ba [62,61]).toList==[60])=false:=by rw[ba_list];decide
 have e5:((ba [62,61]).toList==[60,61])=false:=by rw[ba_list];decide
 have e6:((ba [62,61]).toList==[62])=false:=by rw[ba_list];decide
 have e7:((ba [62,61]).toList==[62,61])=true:=by rw[ba_list];decide
 have e8:((ba [62,61]).toList==[43])=false:=by rw[ba_list];decide
 have e9:((ba [62,61]).toList==[45])=false:=by rw[ba_list];decide
 have e10:((ba [62,61]).toList==[42])=false:=by rw[ba_list];decide
 have e11:((ba [62,61]).toList==[47])=false:=by rw[ba_list];decide
 have e12:((ba [62,61]).toList==[37])=false:=by rw[ba_list];decide
 go_enter Tryz.func5,Tryz.ntmps5
 go_wp2_with fail
 refine(isC _ _).mono ?_
 rintro x w' ⟨rfl,rfl⟩
 go_wp2
 exact bodyPost_ret (v:=rkV (Rr.reck [62,61] a b)) (by simp[results,Tryz.results5,go_sem,rkV,Rr.reck,Rr.bitI,Int.not_lt]) rfl ⟨rfl,rfl⟩
theorem reckD8 (a b:Int)(w:World):Calls Tryz.prog 5 #[.string (ba [43]),.int .i64 a,.int .i64 b] w fun x w'=>x=.returned (rkV (Rr.reck [43] a b))∧w'=w:=by
 have e0:((ba [43]).toList==[124,124])=false:=by rw[ba_list];decide
 have e1:((ba [43]).toList==[38,38])=false:=by rw[ba_list];decide
 have e2:((ba [43]).toList==[61,61])=false:=by rw[ba_list];decide
 have e3:((ba [43]).toList==[33,61])=false:=by rw[ba_list];decide
 have e4:((ba [43]).toList==[60])=false:=by rw[ba_list];decide
 have e5:((ba [43]).toList==[60,61])=false:=by rw[ba_list];decide
 have e6:((ba [43]).toList==[62])=false:=by rw[ba_list];decide
 have e7:((ba [43]).toList==[62,61])=false:=by rw[ba_list];decide
 have e8:((ba [43]).toList==[43])=true:=by rw[ba_list];decide
 have e9:((ba [43]).toList==[45])=false:=by rw[ba_list];decide
 have e10:((ba [43]).toList==[42])=false:=by rw[ba_list];decide
 have e11:((ba [43]).toList==[47])=false:=by rw[ba_list];decide
 have e12:((ba [43]).toList==[37])=false:=by rw[ba_list];decide
 go_enter Tryz.func5,Tryz.ntmps5
 go_wp2
 exact bodyPost_ret (v:=rkV (Rr.reck [43] a b)) (by simp[results,Tryz.results5,go_sem,rkV,Rr.reck,wrap_w]) rfl ⟨rfl,rfl⟩
theorem reckD9 (a b:Int)(w:World):Calls Tryz.prog 5 #[.string (ba [45]),.int .i64 a,.int .i64 b] w fun x w'=>x=.returned (rkV (Rr.reck [45] a b))∧w'=w:=by
 have e0:((ba [45]).toList==[124,124])=false:=by rw[ba_list];decide
 have e1:((ba [45]).toList==[38,38])=false:=by rw[ba_list];decide
 have e2:((ba [45]).toList==[61,61])=false:=by rw[ba_list];decide
 have e3:((ba [45]).toList==[33,61])=false:=by rw[ba_list];decide
 have e4:((ba [45]).toList==[60])=false:=by rw[ba_list];decide
 have e5:((ba [45]).toList==[60,61])=false:=by rw[ba_list];decide
 have e6:((ba [45]).toList==[62])=false:=by rw[ba_list];decide
 have e7:((ba [45]).toList==[62,61])=false:=by rw[ba_list];decide
 have e8:((ba [45]).toList==[43])=false:=by rw[ba_list];decide
 have e9:((ba [45]).toList==[45])=true:=by rw[ba_list];decide
 have e10:((ba [45]).toList==[42])=false:=by rw[ba_list];decide
 have e11:((ba [45]).toList==[47])=false:=by rw[ba_list];decide
 have e12:((ba [45]).toList==[37])=false:=by rw[ba_list];decide
 go_enter Tryz.func5,Tryz.ntmps5
 go_wp2
 exact bodyPost_ret (v:=rkV (Rr.reck [45] a b)) (by simp[results,Tryz.results5,go_sem,rkV,Rr.reck,wrap_w]) rfl ⟨rfl,rfl⟩
theorem reckD10 (a b:Int)(w:World):Calls Tryz.prog 5 #[.string (ba [42]),.int .i64 a,.int .i64 b] w fun x w'=>x=.returned (rkV (Rr.reck [42] a b))∧w'=w:=by
 have e0:((ba [42]).toList==[124,124])=false:=by rw[ba_list];decide
 have e1:((ba [42]).toList==[38,38])=false:=by rw[ba_list];decide
 have e2:((ba [42]).toList==[61,61])=false:=by rw[ba_list];decide
 have e3:((ba [42]).toList==[33,61])=false:=by rw[ba_list];decide
 have e4:((ba [42]).toList==[60])=false:=by rw[ba_list];decide
 have e5:((ba [42]).toList==[60,61])=false:=by rw[ba_list];decide
 have e6:((ba [42]).toList==[62])=false:=by rw[ba_list];decide
 have e7:((ba [42]).toList==[62,61])=false:=by rw[ba_list];decide
 have e8:((ba [42]).toList==[43])=false:=by rw[ba_list];decide
 have e9:((ba [42]).toList==[45])=false:=by rw[ba_list];decide
 have e10:((ba [42]).toList==[42])=true:=by rw[ba_list];decide
 have e11:((ba [42]).toList==[47])=false:=by rw[ba_list];decide
 have e12:((ba [42]).toList==[37])=false:=by rw[ba_list];decide
 go_enter Tryz.func5,Tryz.ntmps5
 go_wp2
 exact bodyPost_ret (v:=rkV (Rr.reck [42] a b)) (by simp[results,Tryz.results5,go_sem,rkV,Rr.reck,wrap_w]) rfl ⟨rfl,rfl⟩
theorem reckD11 (a b:Int)(w:World):Calls Tryz.prog 5 #[.string (ba [47]),.int .i64 a,.int .i64 b] w fun x w'=>x=.returned (rkV (Rr.reck [47] a b))∧w'=w:=by
 by_cases hb:b=0
 all_goals
  have e0:((ba [47]).toList==[124,124])=false:=by rw[ba_list];decide
  have e1:((ba [47]).toList==[38,38])=false:=by rw[ba_list];decide
  have e2:((ba [47]).toList==[61,61])=false:=by rw[ba_list];decide
  have e3:((ba [47]).toList==[33,61])=false:=by rw[ba_list];decide
  have e4:((ba [47]).toList==[60])=false:=by rw[ba_list];decide
  have e5:((ba [47]).toList==[60,61])=false:=by rw[ba_list];decide
  have e6:((ba [47]).toList==[62])=false:=by rw[ba_list];decide
  have e7:((ba [47]).toList==[62,61])=false:=by rw[ba_list];decide
  have e8:((ba [47]).toList==[43])=false:=by rw[ba_list];decide
  have e9:((ba [47]).toList==[45])=false:=by rw[ba_list];decide
  have e10:((ba [47]).toList==[42])=false:=by rw[ba_list];decide
  have e11:((ba [47]).toList==[47])=true:=by rw[ba_list];decide
  have e12:((ba [47]).toList==[37])=false:=by rw[ba_list];decide
  go_enter Tryz.func5,Tryz.ntmps5
  go_wp2
  refine bodyPost_ret (v:=rkV (Rr.reck [47] a b)) ?_ rfl ⟨rfl,rfl⟩
  first
   |(simp[results,Tryz.results5,go_sem,rkV,Rr.reck,hb];done)
   |(simp[results,Tryz.results5,go_sem,rkV,Rr.reck,hb,wrap_w];done)
theorem reckD12 (a b:Int)(w:World)(b1: -9223372036854775808≤b)(b2:b<9223372036854775808):Calls Tryz.prog 5 #[.string (ba [37]),.int .i64 a,.int .i64 b] w fun x w'=>x=.returned (rkV (Rr.reck [37] a b))∧w'=w:=by
 by_cases hb:b=0
 all_goals
  have e0:((ba [37]).toList==[124,124])=false:=by rw[ba_list];decide
  have e1:((ba [37]).toList==[38,38])=false:=by rw[ba_list];decide
  have e2:((ba [37]).toList==[61,61])=false:=by rw[ba_list];decide
  have e3:((ba [37]).toList==[33,61])=false:=by rw[ba_list];decide
  have e4:((ba [37]).toList==[60])=false:=by rw[ba_list];decide
  have e5:((ba [37]).toList==[60,61])=false:=by rw[ba_list];decide
  have e6:((ba [37]).toList==[62])=false:=by rw[ba_list];decide
  have e7:((ba [37]).toList==[62,61])=false:=by rw[ba_list];decide
  have e8:((ba [37]).toList==[43])=false:=by rw[ba_list];decide
  have e9:((ba [37]).toList==[45])=false:=by rw[ba_list];decide
  have e10:((ba [37]).toList==[42])=false:=by rw[ba_list];decide
  have e11:((ba [37]).toList==[47])=false:=by rw[ba_list];decide
  have e12:((ba [37]).toList==[37])=true:=by rw[ba_list];decide
  go_enter Tryz.func5,Tryz.ntmps5
  go_wp2
  refine bodyPost_ret (v:=rkV (Rr.reck [37] a b)) ?_ rfl ⟨rfl,rfl⟩
  first
   |(simp[results,Tryz.results5,go_sem,rkV,Rr.reck,hb];done)
   |(simp[results,Tryz.results5,go_sem,rkV,Rr.reck,hb,wrap_w,rem_is hb b1 b2];done)
theorem reckDC (l:List UInt8)(a b:Int)(w:World)(b1: -9223372036854775808≤b)(b2:b<9223372036854775808):Calls Tryz.prog 5 #[.string (ba l),.int .i64 a,.int .i64 b] w fun x w'=>x=.returned (rkV (Rr.reck l a b))∧w'=w:=by
 by_cases h0:levF l=0
 ·have hn:Rr.reck l a b=none:=by
   unfold Rr.reck
   iterate 13 rw[if_neg (by intro h;subst h;revert h0;decide)]
  rw[hn]
  have e0:((ba l).toList==[124,124])=false:=by rw[ba_list];exact beq_eq_false_iff_ne.2 (by rintro rfl;revert h0;decide)
  have e1:((ba l).toList==[38,38])=false:=by rw[ba_list];exact beq_eq_false_iff_ne.2 (by rintro rfl;revert h0;decide)
  have e2:((ba l).toList==[61,61])=false:=by rw[ba_list];exact beq_eq_false_iff_ne.2 (by rintro rfl;revert h0;decide)
  have e3:((ba l).toList==[33,61])=false:=by rw[ba_list];exact beq_eq_false_iff_ne.2 (by rintro rfl;revert h0;decide)
  have e4:((ba l).toList==[60])=false:=by rw[ba_list];exact beq_eq_false_iff_ne.2 (by rintro rfl;revert h0;decide)
  have e5:((ba l).toList==[60,61])=false:=by rw[ba_list];exact beq_eq_false_iff_ne.2 (by rintro rfl;revert h0;decide)
  have e6:((ba l).toList==[62])=false:=by rw[ba_list];exact beq_eq_false_iff_ne.2 (by rintro rfl;revert h0;decide)
  have e7:((ba l).toList==[62,61])=false:=by rw[ba_list];exact beq_eq_false_iff_ne.2 (by rintro rfl;revert h0;decide)
  have e8:((ba l).toList==[43])=false:=by rw[ba_list];exact beq_eq_false_iff_ne.2 (by rintro rfl;revert h0;decide)
  have e9:((ba l).toList==[45])=false:=by rw[ba_list];exact beq_eq_false_iff_ne.2 (by rintro rfl;revert h0;decide)
  have e10:((ba l).toList==[42])=false:=by rw[ba_list];exact beq_eq_false_iff_ne.2 (by rintro rfl;revert h0;decide)
  have e11:((ba l).toList==[47])=false:=by rw[ba_list];exact beq_eq_false_iff_ne.2 (by rintro rfl;revert h0;decide)
  have e12:((ba l).toList==[37])=false:=by rw[ba_list];exact beq_eq_false_iff_ne.2 (by rintro rfl;revert h0;decide)
  clear hn h0
  go_enter Tryz.func5,Tryz.ntmps5
  go_wp2
  exact bodyPost_ret (v:=.tuple #[.int .i64 0,.int .i64 5]) (by simp[results,Tryz.results5,go_sem]) rfl ⟨rfl,rfl⟩
 ·rcases lev_sgn l h0 with rfl | rfl | rfl | rfl | rfl | rfl | rfl | rfl | rfl | rfl | rfl | rfl | rfl
  ·exact reckD0 a b w
  ·exact reckD1 a b w
  ·exact reckD2 a b w
  ·exact reckD3 a b w
  ·exact reckD4 a b w
  ·exact reckD5 a b w
  ·exact reckD6 a b w
  ·exact reckD7 a b w
  ·exact reckD8 a b w
  ·exact reckD9 a b w
  ·exact reckD10 a b w
  ·exact reckD11 a b w
  ·exact reckD12 a b w b1 b2
end Go.Proofs.YtepkhlpjgnckkaaGreatDoor
