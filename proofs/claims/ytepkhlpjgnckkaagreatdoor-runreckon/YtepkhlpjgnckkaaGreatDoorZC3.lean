/- parse's reader of programs: nest. parse's reader of programs: stmt. -/
import Derived.Test.YtepkhlpjgnckkaaGreatDoorZC2
namespace Go.Proofs.YtepkhlpjgnckkaaGreatDoor
set_option maxRecDepth 100000
set_option maxHeartbeats 8000000
open Go.RowKit
open Par (Tok Po Tr nx atP isT ba Res Stm Prm Chn Prc Prg)
def VBk (B:Nat)(w':World)(l:List Stm)(u:Value):Prop:=∃(ao:Option Addr) (n c:Nat),u=.slice ao n c∧RwV StIs w' (fun b=>B≤b) 15 u l
def BlkC (rb e:Nat)(bl pr:Int)(B:List Tok→Res (List Stm)):Prop:=∀(w:World) (ts:List Tok) (v:Value),Rd w rb e bl pr ts v→Calls Tryz.prog 69 #[.pointer (some ⟨rb,0,none⟩)] w (Post w rb e bl pr (B ts) (VBk w.heap.size))
def Par.nestA (E:List Tok→Res Tr)(B:List Tok→Res (List Stm))(b:Bool)(ts:List Tok):Res (Tr×List Stm×List Stm):=(E ts).bind fun x r1=>(B r1).bind fun a r2=>if(b && isT Par.wElse r2)=true then(B r2.tail).bind fun y r3=>.ok (x,a,y) r3 else .ok (x,a,[]) r2
def NestV (sb:Nat)(p k:Int)(w':World)(q:Tr×List Stm×List Stm)(u:Value):Prop:=u=.tuple #[]∧∃(z0 z1 z2 z3:Int) (z4:ByteArray) (z5:Option Addr) (m5 d5:Nat) (z6:Option Addr) (m6 d6:Nat) (ao:Option Addr) (an ac:Nat) (bo:Option Addr) (bn bc:Nat),w'.heap[sb]? =some (.cells #[.int .i64 k,.int .i64 p,.string ⟨#[]⟩,.string ⟨#[]⟩,.bool false,.slice none 0 0,.int .i64 z0,.int .i64 z1,.int .i64 z2,.int .i64 z3,.string z4,.slice z5 m5 d5,.slice z6 m6 d6,.slice ao an ac,.slice bo bn bc] 136 (0,0))∧TrIs w' (fun b=>sb<b) q.1 [.int .i64 z0,.int .i64 z1,.int .i64 z2,.int .i64 z3,.string z4,.slice z5 m5 d5,.slice z6 m6 d6]∧RwV StIs w' (fun b=>sb<b) 15 (.slice ao an ac) q.2.1∧RwV StIs w' (fun b=>sb<b) 15 (.slice bo bn bc) q.2.2
theorem rwT_keeps {w w':World}{S:Nat→Prop}{v:Value}{l:List Stm}(h:RwV StIs w S 15 v l)(k:Keeps S w w'):RwV StIs w' S 15 v l:=h.keeps (fun h=>h.keeps k) k
theorem rwT_mono {w:World}{S S':Nat→Prop}{v:Value}{l:List Stm}(h:RwV StIs w S 15 v l)(k:∀b,S b→b<w.heap.size→S' b):RwV StIs w S' 15 v l:=h.mono (fun h=>h.mono k) k
theorem nestC {w:World}{rb e sb:Nat}{bl pr p:Int}{t:Tok}{r0:List Tok}{v:Value}{E:List Tok→Res Tr}{Bk:List Tok→Res (List Stm)}(hE:ExpC rb e bl pr E)(hBk:BlkC rb e bl pr Bk)(h:Rd w rb e bl pr (t::r0) v)(hsb:w.heap[sb]? =some (.cells #[.int .i64 0,.int .i64 p,.string ⟨#[]⟩,.string ⟨#[]⟩,.bool false,.slice none 0 0,.int .i64 0,.int .i64 0,.int .i64 0,.int .i64 0,.string ⟨#[]⟩,.slice none 0 0,.slice none 0 0,.slice none 0 0,.slice none 0 0] 136 (0,0)))(hlo:rb<sb)(kb:Bool)(hkb:(t.2.2==Par.wIf)=kb)(kk:Int)(hkk:kk=if kb=true then 3 else 4):
 Calls Tryz.prog 145 #[.pointer (some ⟨rb,0,none⟩),.pointer (some ⟨sb,0,none⟩)] w (PostB sb w rb e bl pr (Par.nestA E Bk kb r0) (NestV sb p kk)):=by
 have HKK:Hid (kk=if kb=true then 3 else 4):=hkk
 clear hkk
 obtain⟨res,hres⟩:∃res,res=Par.nestA E Bk kb r0:=⟨_,rfl⟩
 rw[←hres]
 have f2:=fTok2
 have HE:Hid (ExpC rb e bl pr E):=hE
 have HK:Hid (BlkC rb e bl pr Bk):=hBk
 have HRS:Hid (res=Par.nestA E Bk kb r0):=hres
 have hls:sb<w.heap.size:=lt_of_block hsb
 obtain⟨⟨a0,a1,a2,a3,a4,a5,a6,a7,a8,a9,a10,a11,a12,a13,a14⟩,hz⟩:=blkT hsb
 have hz0:=hz 0
 obtain⟨wa,hwa⟩:∃wa,wa=w.setCell ⟨sb,0,none⟩ (.int .i64 4):=⟨_,rfl⟩
 have hba:Below sb w wa:=by rw[hwa];exact(Below.refl _ _).setCell (by simp) _
 have HSa:Hid (wa.heap[sb]? =some (.cells #[.int .i64 4,.int .i64 p,.string ⟨#[]⟩,.string ⟨#[]⟩,.bool false,.slice none 0 0,.int .i64 0,.int .i64 0,.int .i64 0,.int .i64 0,.string ⟨#[]⟩,.slice none 0 0,.slice none 0 0,.slice none 0 0,.slice none 0 0] 136 (0,0))):=by show _=_;rw[hwa];simp[World.setCell,Array.getElem?_modify,hsb]
 have HTK:=rTake_any (h.keeps hba hlo)
 have HBa:Hid (Below sb w wa):=hba
 have hia:((ba t.2.2).toList==[105,102])=kb:=by rw[Lex.list_of];exact hkb
 clear h hres hsb hE hBk hz hba hkb
 go_enter Tryz.func145,Tryz.ntmps145
 go_wp2_with fail
 rw[←hwa]
 clear hwa a0 a1 a2 a3 a4 a5 a6 a7 a8 a9 a10 a11 a12 a13 a14 hz0
 refine HTK.mono ?_
 rintro x w1 ⟨rfl,hq1,v1,hrd1⟩
 have hsa:sb<wa.heap.size:=lt_of_block HSa.out
 have hg1:GoF sb w w1 rb e bl pr res (Par.nestA E Bk kb) r0 v1:=⟨(Fr.of_below HBa.out).trans (Fr.of_grown hq1 (by omega)),hrd1,HRS.out,hlo⟩
 have hs1:=go_blk hq1 HSa.out (by omega)
 have HS1:Hid (w1.heap[sb]? =some (.cells #[.int .i64 4,.int .i64 p,.string ⟨#[]⟩,.string ⟨#[]⟩,.bool false,.slice none 0 0,.int .i64 0,.int .i64 0,.int .i64 0,.int .i64 0,.string ⟨#[]⟩,.slice none 0 0,.slice none 0 0,.slice none 0 0,.slice none 0 0] 136 (0,0))):=hs1
 have HG1:Hid (GoF sb w w1 rb e bl pr res (Par.nestA E Bk kb) r0 v1):=hg1
 have hl1:=lt_of_block hs1
 clear hq1 hrd1 HTK hg1
 cases kb with
 | true=>
  obtain rfl:kk=3:=HKK.out
  clear HKK
  obtain⟨⟨a0,a1,a2,a3,a4,a5,a6,a7,a8,a9,a10,a11,a12,a13,a14⟩,hz⟩:=blkT hs1
  have hz0:=hz 0
  obtain⟨w2,hw2⟩:∃w2,w2=w1.setCell ⟨sb,0,none⟩ (.int .i64 3):=⟨_,rfl⟩
  have hb2:Below sb w1 w2:=by rw[hw2];exact(Below.refl _ _).setCell (by simp) _
  have HS2:Hid (w2.heap[sb]? =some (.cells #[.int .i64 3,.int .i64 p,.string ⟨#[]⟩,.string ⟨#[]⟩,.bool false,.slice none 0 0,.int .i64 0,.int .i64 0,.int .i64 0,.int .i64 0,.string ⟨#[]⟩,.slice none 0 0,.slice none 0 0,.slice none 0 0,.slice none 0 0] 136 (0,0))):=by show _=_;rw[hw2];simp[World.setCell,Array.getElem?_modify,hs1]
  have HG2:Hid (GoF sb w w2 rb e bl pr res (Par.nestA E Bk true) r0 v1):=HG1.out.later hb2
  have hl2:sb<w2.heap.size:=lt_of_block HS2.out
  clear hs1 hz hb2
  go_wp2_with fail
  rw[←hw2]
  clear hw2 a0 a1 a2 a3 a4 a5 a6 a7 a8 a9 a10 a11 a12 a13 a14 hz0
  refine(HE.out _ _ _ HG2.out.rd).mono ?_
  intro x w3 hp
  rcases goF_of HG2.out (by omega) hp with⟨y,r3,u,v3,rfl,⟨z0,z1,z2,z3,z4,z5,m5,d5,z6,m6,d6,rfl,hy⟩,hq3,hg3⟩|⟨hgr,c,q,hr,rfl,r,v',hrd⟩
  rotate_left
  ·exact⟨rfl,hgr,.inr ⟨c,q,hr,rfl,r,v',hrd⟩⟩
  have HG3:Hid _:=hg3
  have HS3:Hid (w3.heap[sb]? =some (.cells #[.int .i64 3,.int .i64 p,.string ⟨#[]⟩,.string ⟨#[]⟩,.bool false,.slice none 0 0,.int .i64 0,.int .i64 0,.int .i64 0,.int .i64 0,.string ⟨#[]⟩,.slice none 0 0,.slice none 0 0,.slice none 0 0,.slice none 0 0] 136 (0,0))):=go_blk hq3 HS2.out (by omega)
  have HY3:Hid (TrIs w3 (fun b=>sb<b) y [.int .i64 z0,.int .i64 z1,.int .i64 z2,.int .i64 z3,.string z4,.slice z5 m5 d5,.slice z6 m6 d6]):=TrIs.mono hy fun b hb _=>by omega
  have hl3:sb<w3.heap.size:=lt_of_block HS3.out
  clear hp hq3 hg3 hy
  go_wp2_with fail
  refine(HK.out _ _ _ HG3.out.rd).mono ?_
  intro x w4 hp
  rcases goF_of HG3.out (by omega) hp with⟨sa,r4,u,v4,rfl,⟨ao,an,ac,rfl,hrw⟩,hq4,hg4⟩|⟨hgr,c,q,hr,rfl,r,v',hrd⟩
  rotate_left
  ·exact⟨rfl,hgr,.inr ⟨c,q,hr,rfl,r,v',hrd⟩⟩
  have hs4:=go_blk hq4 HS3.out (by omega)
  have hy4:TrIs w4 (fun b=>sb<b) y [.int .i64 z0,.int .i64 z1,.int .i64 z2,.int .i64 z3,.string z4,.slice z5 m5 d5,.slice z6 m6 d6]:=HY3.out.keeps (Keeps.of_grown hq4 fun b hb=>by simp;omega)
  have ha4:RwV StIs w4 (fun b=>sb<b) 15 (.slice ao an ac) sa:=rwT_mono hrw fun b hb _=>by omega
  obtain⟨⟨a0,a1,a2,a3,a4,a5,a6,a7,a8,a9,a10,a11,a12,a13,a14⟩,hz⟩:=blkT hs4
  have hz6:=hz 6
  have hz7:=hz 7
  have hz8:=hz 8
  have hz9:=hz 9
  have hz10:=hz 10
  have hz11:=hz 11
  have hz12:=hz 12
  have hz13:=hz 13
  have l4:=lt_of_block hs4
  obtain⟨w5,hw5⟩:∃w5,w5=(((((((w4.setCell ⟨sb,6,none⟩ (.int .i64 z0)).setCell ⟨sb,7,none⟩ (.int .i64 z1)).setCell ⟨sb,8,none⟩ (.int .i64 z2)).setCell ⟨sb,9,none⟩ (.int .i64 z3)).setCell ⟨sb,10,none⟩ (.string z4)).setCell ⟨sb,11,none⟩ (.slice z5 m5 d5)).setCell ⟨sb,12,none⟩ (.slice z6 m6 d6)).setCell ⟨sb,13,none⟩ (.slice ao an ac):=⟨_,rfl⟩
  have hb5:Below sb w4 w5:=by
   rw[hw5]
   iterate 8 refine Below.setCell ?_ (by simp) _
   exact Below.refl _ _
  have hk5:Keeps (fun b=>sb<b) w4 w5:=⟨hb5.size,fun b hb _=>by rw[hw5];iterate 8 rw[Below.heap_setCell _ _ _ _ (by show b≠sb;omega)]⟩
  have HS5:Hid (w5.heap[sb]? =some (.cells #[.int .i64 3,.int .i64 p,.string ⟨#[]⟩,.string ⟨#[]⟩,.bool false,.slice none 0 0,.int .i64 z0,.int .i64 z1,.int .i64 z2,.int .i64 z3,.string z4,.slice z5 m5 d5,.slice z6 m6 d6,.slice ao an ac,.slice none 0 0] 136 (0,0))):=by show _=_;rw[hw5];simp[World.setCell,Array.getElem?_modify,hs4]
  have HG5:Hid _:=hg4.later hb5
  have HY5:Hid (TrIs w5 (fun b=>sb<b) y [.int .i64 z0,.int .i64 z1,.int .i64 z2,.int .i64 z3,.string z4,.slice z5 m5 d5,.slice z6 m6 d6]):=hy4.keeps hk5
  have HA5:Hid (RwV StIs w5 (fun b=>sb<b) 15 (.slice ao an ac) sa):=rwT_keeps ha4 hk5
  have hl5:sb<w5.heap.size:=lt_of_block HS5.out
  obtain⟨⟨i0,_⟩,_⟩:=blkT HS5.out
  clear hp hq4 hg4 hs4 hz hrw hy4 ha4 hb5 hk5
  go_wp2_with fail
  rw[←hw5]
  refine(rMay_any ⟨#[101,108,115,101]⟩ (by decide) HG5.out.rd).mono ?_
  rintro x w6 ⟨rfl,hq6,v6,hrd6⟩
  have hs6:=go_blk hq6 HS5.out (by omega)
  have HS6:Hid (w6.heap[sb]? =some (.cells #[.int .i64 3,.int .i64 p,.string ⟨#[]⟩,.string ⟨#[]⟩,.bool false,.slice none 0 0,.int .i64 z0,.int .i64 z1,.int .i64 z2,.int .i64 z3,.string z4,.slice z5 m5 d5,.slice z6 m6 d6,.slice ao an ac,.slice none 0 0] 136 (0,0))):=hs6
  have HY6:Hid (TrIs w6 (fun b=>sb<b) y [.int .i64 z0,.int .i64 z1,.int .i64 z2,.int .i64 z3,.string z4,.slice z5 m5 d5,.slice z6 m6 d6]):=HY5.out.keeps (Keeps.of_grown hq6 fun b hb=>by simp;omega)
  have HA6:Hid (RwV StIs w6 (fun b=>sb<b) 15 (.slice ao an ac) sa):=rwT_keeps HA5.out (Keeps.of_grown hq6 fun b hb=>by simp;omega)
  have HF6:Hid (Fr sb rb w w6):=HG5.out.fr.trans (Fr.of_grown hq6 (by omega))
  have hl6:=lt_of_block hs6
  clear hq6
  cases hi:isT (⟨#[101,108,115,101]⟩:ByteArray).data.toList r4 with
  | true=>
   rw[hi] at hrd6
   have HG6:Hid (GoF sb w w6 rb e bl pr res (fun r=>(Bk r).bind fun b r3=>.ok (y,sa,b) r3) r4.tail v6):=by
    refine⟨HF6.out,hrd6,?_,hlo⟩
    rw[HG5.out.eq]
    exact if_pos (by rw[Bool.true_and];exact hi)
   clear hi hrd6 hs6
   go_wp2_with fail
   refine(HK.out _ _ _ HG6.out.rd).mono ?_
   intro x w7 hp
   rcases goF_of HG6.out (by omega) hp with⟨sy,r7,u,v7,rfl,⟨bo,bn,bc,rfl,hrw⟩,hq7,hg7⟩|⟨hgr,c,q,hr,rfl,r,v',hrd⟩
   rotate_left
   ·exact⟨rfl,hgr,.inr ⟨c,q,hr,rfl,r,v',hrd⟩⟩
   have hs7:=go_blk hq7 HS6.out (by omega)
   have HS7:Hid (w7.heap[sb]? =some (.cells #[.int .i64 3,.int .i64 p,.string ⟨#[]⟩,.string ⟨#[]⟩,.bool false,.slice none 0 0,.int .i64 z0,.int .i64 z1,.int .i64 z2,.int .i64 z3,.string z4,.slice z5 m5 d5,.slice z6 m6 d6,.slice ao an ac,.slice none 0 0] 136 (0,0))):=hs7
   have HG7:Hid _:=hg7
   have HY7:Hid (TrIs w7 (fun b=>sb<b) y [.int .i64 z0,.int .i64 z1,.int .i64 z2,.int .i64 z3,.string z4,.slice z5 m5 d5,.slice z6 m6 d6]):=HY6.out.keeps (Keeps.of_grown hq7 fun b hb=>by simp;omega)
   have HA7:Hid (RwV StIs w7 (fun b=>sb<b) 15 (.slice ao an ac) sa):=rwT_keeps HA6.out (Keeps.of_grown hq7 fun b hb=>by simp;omega)
   have HB7:Hid (RwV StIs w7 (fun b=>sb<b) 15 (.slice bo bn bc) sy):=rwT_mono hrw fun b hb _=>by omega
   obtain⟨⟨a0,a1,a2,a3,a4,a5,a6,a7,a8,a9,a10,a11,a12,a13,a14⟩,hz⟩:=blkT hs7
   have hz14:=hz 14
   have l7:=lt_of_block hs7
   clear hp hq7 hg7 hs7 hz hrw
   go_wp2
   obtain⟨wf,hwf⟩:∃wf,wf=w7.setCell ⟨sb,14,none⟩ (.slice bo bn bc):=⟨_,rfl⟩
   have hbf:Below sb w7 wf:=by rw[hwf];exact(Below.refl _ _).setCell (by simp) _
   have hkf:∀k,k≠sb→wf.heap[k]? =w7.heap[k]? :=fun k hk=>by rw[hwf,Below.heap_setCell _ _ _ _ hk]
   have hnf:wf.heap[sb]? =some (.cells #[.int .i64 3,.int .i64 p,.string ⟨#[]⟩,.string ⟨#[]⟩,.bool false,.slice none 0 0,.int .i64 z0,.int .i64 z1,.int .i64 z2,.int .i64 z3,.string z4,.slice z5 m5 d5,.slice z6 m6 d6,.slice ao an ac,.slice bo bn bc] 136 (0,0)):=by rw[hwf];simp[World.setCell,Array.getElem?_modify,HS7.out]
   rw[←hwf]
   refine bodyPost_ret (v:=.tuple #[]) (by simp[results,Tryz.results145]) rfl ?_
   have hkk:Keeps (fun b=>sb<b) w7 wf:=⟨hbf.size,fun b hb _=>hkf b (by omega)⟩
   exact⟨HG7.out.fr.trans (Fr.of_below hbf),.inl ⟨_,_,HG7.out.eq,_,_,rfl,⟨rfl,_,_,_,_,_,_,_,_,_,_,_,_,_,_,_,_,_,hnf,HY7.out.keeps hkk,rwT_keeps HA7.out hkk,rwT_keeps HB7.out hkk⟩,HG7.out.rd.keeps hbf hlo⟩⟩
  | false=>
   rw[hi] at hrd6
   have HEQ:Hid (res=.ok (y,sa,[]) r4):=by
    show _=_
    rw[HG5.out.eq]
    exact if_neg (by rw[Bool.true_and,show Par.wElse=(⟨#[101,108,115,101]⟩:ByteArray).data.toList from rfl,hi];simp)
   have HRD:Hid (Rd w6 rb e bl pr r4 v6):=hrd6
   clear hi hrd6 hs6
   go_wp2
   refine bodyPost_ret (v:=.tuple #[]) (by simp[results,Tryz.results145]) rfl ?_
   exact⟨HF6.out,.inl ⟨_,_,HEQ.out,_,_,rfl,⟨rfl,_,_,_,_,_,_,_,_,_,_,_,_,_,_,_,_,_,HS6.out,HY6.out,HA6.out,RwV.none _ _ _ _⟩,HRD.out⟩⟩
 | false=>
  obtain rfl:kk=4:=HKK.out
  clear HKK
  obtain⟨w2,hw2⟩:∃w2,w2=w1:=⟨_,rfl⟩
  have HS2:Hid (w2.heap[sb]? =some (.cells #[.int .i64 4,.int .i64 p,.string ⟨#[]⟩,.string ⟨#[]⟩,.bool false,.slice none 0 0,.int .i64 0,.int .i64 0,.int .i64 0,.int .i64 0,.string ⟨#[]⟩,.slice none 0 0,.slice none 0 0,.slice none 0 0,.slice none 0 0] 136 (0,0))):=by rw[hw2];exact hs1
  have HG2:Hid (GoF sb w w2 rb e bl pr res (Par.nestA E Bk false) r0 v1):=by rw[hw2];exact HG1.out
  have hl2:sb<w2.heap.size:=lt_of_block HS2.out
  rw[←hw2]
  clear hs1 hw2
  go_wp2_with fail
  refine(HE.out _ _ _ HG2.out.rd).mono ?_
  intro x w3 hp
  rcases goF_of HG2.out (by omega) hp with⟨y,r3,u,v3,rfl,⟨z0,z1,z2,z3,z4,z5,m5,d5,z6,m6,d6,rfl,hy⟩,hq3,hg3⟩|⟨hgr,c,q,hr,rfl,r,v',hrd⟩
  rotate_left
  ·exact⟨rfl,hgr,.inr ⟨c,q,hr,rfl,r,v',hrd⟩⟩
  have HG3:Hid _:=hg3
  have HS3:Hid (w3.heap[sb]? =some (.cells #[.int .i64 4,.int .i64 p,.string ⟨#[]⟩,.string ⟨#[]⟩,.bool false,.slice none 0 0,.int .i64 0,.int .i64 0,.int .i64 0,.int .i64 0,.string ⟨#[]⟩,.slice none 0 0,.slice none 0 0,.slice none 0 0,.slice none 0 0] 136 (0,0))):=go_blk hq3 HS2.out (by omega)
  have HY3:Hid (TrIs w3 (fun b=>sb<b) y [.int .i64 z0,.int .i64 z1,.int .i64 z2,.int .i64 z3,.string z4,.slice z5 m5 d5,.slice z6 m6 d6]):=TrIs.mono hy fun b hb _=>by omega
  have hl3:sb<w3.heap.size:=lt_of_block HS3.out
  clear hp hq3 hg3 hy
  go_wp2_with fail
  refine(HK.out _ _ _ HG3.out.rd).mono ?_
  intro x w4 hp
  rcases goF_of HG3.out (by omega) hp with⟨sa,r4,u,v4,rfl,⟨ao,an,ac,rfl,hrw⟩,hq4,hg4⟩|⟨hgr,c,q,hr,rfl,r,v',hrd⟩
  rotate_left
  ·exact⟨rfl,hgr,.inr ⟨c,q,hr,rfl,r,v',hrd⟩⟩
  have hs4:=go_blk hq4 HS3.out (by omega)
  have hy4:TrIs w4 (fun b=>sb<b) y [.int .i64 z0,.int .i64 z1,.int .i64 z2,.int .i64 z3,.string z4,.slice z5 m5 d5,.slice z6 m6 d6]:=HY3.out.keeps (Keeps.of_grown hq4 fun b hb=>by simp;omega)
  have ha4:RwV StIs w4 (fun b=>sb<b) 15 (.slice ao an ac) sa:=rwT_mono hrw fun b hb _=>by omega
  obtain⟨⟨a0,a1,a2,a3,a4,a5,a6,a7,a8,a9,a10,a11,a12,a13,a14⟩,hz⟩:=blkT hs4
  have hz6:=hz 6
  have hz7:=hz 7
  have hz8:=hz 8
  have hz9:=hz 9
  have hz10:=hz 10
  have hz11:=hz 11
  have hz12:=hz 12
  have hz13:=hz 13
  have l4:=lt_of_block hs4
  obtain⟨w5,hw5⟩:∃w5,w5=(((((((w4.setCell ⟨sb,6,none⟩ (.int .i64 z0)).setCell ⟨sb,7,none⟩ (.int .i64 z1)).setCell ⟨sb,8,none⟩ (.int .i64 z2)).setCell ⟨sb,9,none⟩ (.int .i64 z3)).setCell ⟨sb,10,none⟩ (.string z4)).setCell ⟨sb,11,none⟩ (.slice z5 m5 d5)).setCell ⟨sb,12,none⟩ (.slice z6 m6 d6)).setCell ⟨sb,13,none⟩ (.slice ao an ac):=⟨_,rfl⟩
  have hb5:Below sb w4 w5:=by
   rw[hw5]
   iterate 8 refine Below.setCell ?_ (by simp) _
   exact Below.refl _ _
  have hk5:Keeps (fun b=>sb<b) w4 w5:=⟨hb5.size,fun b hb _=>by rw[hw5];iterate 8 rw[Below.heap_setCell _ _ _ _ (by show b≠sb;omega)]⟩
  have HS5:Hid (w5.heap[sb]? =some (.cells #[.int .i64 4,.int .i64 p,.string ⟨#[]⟩,.string ⟨#[]⟩,.bool false,.slice none 0 0,.int .i64 z0,.int .i64 z1,.int .i64 z2,.int .i64 z3,.string z4,.slice z5 m5 d5,.slice z6 m6 d6,.slice ao an ac,.slice none 0 0] 136 (0,0))):=by show _=_;rw[hw5];simp[World.setCell,Array.getElem?_modify,hs4]
  have HG5:Hid _:=hg4.later hb5
  have HY5:Hid (TrIs w5 (fun b=>sb<b) y [.int .i64 z0,.int .i64 z1,.int .i64 z2,.int .i64 z3,.string z4,.slice z5 m5 d5,.slice z6 m6 d6]):=hy4.keeps hk5
  have HA5:Hid (RwV StIs w5 (fun b=>sb<b) 15 (.slice ao an ac) sa):=rwT_keeps ha4 hk5
  have hl5:sb<w5.heap.size:=lt_of_block HS5.out
  obtain⟨⟨i0,_⟩,_⟩:=blkT HS5.out
  clear hp hq4 hg4 hs4 hz hrw hy4 ha4 hb5 hk5
  go_wp2
  rw[←hw5]
  have HEQ:Hid (res=.ok (y,sa,[]) r4):=by
   show _=_
   rw[HG5.out.eq]
   rfl
  refine bodyPost_ret (v:=.tuple #[]) (by simp[results,Tryz.results145]) rfl ?_
  exact⟨HG5.out.fr,.inl ⟨_,_,HEQ.out,_,_,rfl,⟨rfl,_,_,_,_,_,_,_,_,_,_,_,_,_,_,_,_,_,HS5.out,HY5.out,HA5.out,RwV.none _ _ _ _⟩,HG5.out.rd⟩⟩
theorem trNone (w:World)(S:Nat→Prop):TrIs w S Par.noE [.int .i64 0,.int .i64 0,.int .i64 0,.int .i64 0,.string ⟨#[]⟩,.slice none 0 0,.slice none 0 0]:=.mk (css:=[]) (by decide) (labNone _ _) (RowV.none _ _ _ _) rfl (fun i hi=>by simp at hi)
theorem Par.let_eq (e:Nat)(ts:List Tok):Par.letR e ts=(Par.letA e (Par.exprR e 12) ts.tail).bind fun a r=>Par.semi e (.mk 1 (nx ts).2.1 a.1 (ba []) a.2.1.1 a.2.1.2 a.2.2 [] []) r:=by
 unfold Par.letR Par.letA
 cases Par.nameR e ts.tail with
 | no c q=>rfl
 | ok s r1=>
  show(Par.bearsR e r1).bind _=((Par.bearsR e r1).bind _).bind _
  cases Par.bearsR e r1 with
  | no c q=>rfl
  | ok d r2=>
   show(Par.must e [61] r2).bind _=((Par.must e [61] r2).bind _).bind _
   cases Par.must e [61] r2 with
   | no c q=>rfl
   | ok a r3=>
    show(Par.exprR e 12 r3).bind _=((Par.exprR e 12 r3).bind _).bind _
    cases Par.exprR e 12 r3<;>rfl
theorem stm_ret {w wz wf:World}{rb e sb:Nat}{bl pr:Int}{res:Res Stm}{S:Stm}{r:List Tok}{v:Value}{tm:Array Value}{x0 x1:Int}{x2 x3:ByteArray}{x4:Bool}{x5:Option Addr}{m5 d5:Nat}{x6 x7 x8 x9:Int}{x10:ByteArray}{x11:Option Addr}{m11 d11:Nat}{x12:Option Addr}{m12 d12:Nat}{x13:Option Addr}{m13 d13:Nat}{x14:Option Addr}{m14 d14:Nat}(hg:GoF w.heap.size w wz rb e bl pr res (fun r=>.ok S r) r v)(hn:wf.heap[w.heap.size]? =some (.cells #[.int .i64 x0,.int .i64 x1,.string x2,.string x3,.bool x4,.slice x5 m5 d5,.int .i64 x6,.int .i64 x7,.int .i64 x8,.int .i64 x9,.string x10,.slice x11 m11 d11,.slice x12 m12 d12,.slice x13 m13 d13,.slice x14 m14 d14] 136 (0,0)))
 (hs:StIs wz (fun b=>sb<b) S [.int .i64 x0,.int .i64 x1,.string x2,.string x3,.bool x4,.slice x5 m5 d5,.int .i64 x6,.int .i64 x7,.int .i64 x8,.int .i64 x9,.string x10,.slice x11 m11 d11,.slice x12 m12 d12,.slice x13 m13 d13,.slice x14 m14 d14]) (hk:Keeps (fun b=>sb<b) wz wf) (hb:Below w.heap.size wz wf) (hl:w.heap.size≤sb) (h2:tm[2]? =some (.pointer (some ⟨w.heap.size,0,none⟩))):
 bodyPost Tryz.prog Tryz.f107 (Post w rb e bl pr res (VT w.heap.size)) .ret {tmps:=tm,defers:=[]} wf:=by
 obtain⟨⟨d0,d1,d2,d3,d4,d5',d6,d7,d8,d9,d10,d11',d12',d13',d14'⟩,_⟩:=blkT hn
 refine bodyPost_ret (v:=.agg #[.int .i64 x0,.int .i64 x1,.string x2,.string x3,.bool x4,.slice x5 m5 d5,.int .i64 x6,.int .i64 x7,.int .i64 x8,.int .i64 x9,.string x10,.slice x11 m11 d11,.slice x12 m12 d12,.slice x13 m13 d13,.slice x14 m14 d14]) (by simp[results,Tryz.results107,go_sem,h2,d0,d1,d2,d3,d4,d5',d6,d7,d8,d9,d10,d11',d12',d13',d14']) rfl ?_
 exact⟨(hg.fr.trans (Fr.of_below hb)).grown,.inl ⟨S,r,hg.eq,_,v,rfl,⟨_,_,_,_,_,_,_,_,_,_,_,_,_,_,_,_,_,_,_,_,_,_,_,_,_,rfl,(hs.keeps hk).mono fun b hb _=>by omega⟩,hg.rd.keeps hb hg.lo⟩⟩
theorem stmtA {w:World}{rb e:Nat}{bl pr:Int}{ts:List Tok}{v:Value}{Bk:List Tok→Res (List Stm)}(hin:(nx ts).2.2=Par.wIf∨(nx ts).2.2=Par.wWhile∨(nx ts).2.2=Par.wVar)(hE:ExpC rb e bl pr (Par.exprR e 12))(hBk:BlkC rb e bl pr Bk)(h:Rd w rb e bl pr ts v):
 Calls Tryz.prog 107 #[.pointer (some ⟨rb,0,none⟩)] w (Post w rb e bl pr (Par.stmF e Bk ts) (VT w.heap.size)):=by
 obtain⟨res,hres⟩:∃res,res=Par.stmF e Bk ts:=⟨_,rfl⟩
 rw[←hres]
 have HRS:Hid (res=Par.stmF e Bk ts):=hres
 have f2:=fTok2
 have HE:Hid (ExpC rb e bl pr (Par.exprR e 12)):=hE
 have HK:Hid (BlkC rb e bl pr Bk):=hBk
 have hlt:=h.lt
 obtain⟨w0,hw0⟩:∃w0,w0=w.alloc (.cells #[.int .i64 0,.int .i64 0,.string ⟨#[]⟩,.string ⟨#[]⟩,.bool false,.slice none 0 0,.int .i64 0,.int .i64 0,.int .i64 0,.int .i64 0,.string ⟨#[]⟩,.slice none 0 0,.slice none 0 0,.slice none 0 0,.slice none 0 0] 136):=⟨_,rfl⟩
 have hb0:Below w.heap.size w w0:=by rw[hw0];exact(Below.refl _ _).alloc (Nat.le_refl _) _
 have hs0:w0.heap.size=w.heap.size+1:=by rw[hw0];simp
 have hn0:w0.heap[w.heap.size]? =some (.cells #[.int .i64 0,.int .i64 0,.string ⟨#[]⟩,.string ⟨#[]⟩,.bool false,.slice none 0 0,.int .i64 0,.int .i64 0,.int .i64 0,.int .i64 0,.string ⟨#[]⟩,.slice none 0 0,.slice none 0 0,.slice none 0 0,.slice none 0 0] 136 (0,0)):=by rw[hw0];exact heap_at_alloc _ _ _ rfl
 have hrd0:Rd w0 rb e bl pr ts v:=h.keeps hb0 h.lt
 have HAT:=rAt_any hrd0
 obtain⟨p,hp0⟩:∃p:Int,p=(atP e ts:Nat):=⟨_,rfl⟩
 rw[←hp0] at HAT
 have HP0:Hid (p=(atP e ts:Nat)):=hp0
 obtain⟨sb,hsb⟩:∃sb,sb=w.heap.size+1:=⟨_,rfl⟩
 obtain⟨wb,hwb⟩:∃wb,wb=w0.alloc (.cells #[.int .i64 0,.int .i64 p,.string ⟨#[]⟩,.string ⟨#[]⟩,.bool false,.slice none 0 0,.int .i64 0,.int .i64 0,.int .i64 0,.int .i64 0,.string ⟨#[]⟩,.slice none 0 0,.slice none 0 0,.slice none 0 0,.slice none 0 0] 136):=⟨_,rfl⟩
 have hbb:Below w0.heap.size w0 wb:=by rw[hwb];exact(Below.refl _ _).alloc (Nat.le_refl _) _
 have hnb:wb.heap[w.heap.size]? =some (.cells #[.int .i64 0,.int .i64 0,.string ⟨#[]⟩,.string ⟨#[]⟩,.bool false,.slice none 0 0,.int .i64 0,.int .i64 0,.int .i64 0,.int .i64 0,.string ⟨#[]⟩,.slice none 0 0,.slice none 0 0,.slice none 0 0,.slice none 0 0] 136 (0,0)):=(hbb.block _ (by omega)).trans hn0
 have hsbk:wb.heap[sb]? =some (.cells #[.int .i64 0,.int .i64 p,.string ⟨#[]⟩,.string ⟨#[]⟩,.bool false,.slice none 0 0,.int .i64 0,.int .i64 0,.int .i64 0,.int .i64 0,.string ⟨#[]⟩,.slice none 0 0,.slice none 0 0,.slice none 0 0,.slice none 0 0] 136 (0,0)):=by rw[hsb,←hs0,hwb];exact heap_at_alloc _ _ _ rfl
 have hrdb:Rd wb rb e bl pr ts v:=hrd0.keeps hbb hrd0.lt
 have HNX:=rNext_any hrdb
 have HGb:Hid (Fr w.heap.size rb w wb):=(Fr.of_below hb0).trans (Fr.of_below (hbb.mono (by omega)))
 have HRb:Hid (Rd wb rb e bl pr ts v):=hrdb
 have HNb:Hid (wb.heap[w.heap.size]? =some (.cells #[.int .i64 0,.int .i64 0,.string ⟨#[]⟩,.string ⟨#[]⟩,.bool false,.slice none 0 0,.int .i64 0,.int .i64 0,.int .i64 0,.int .i64 0,.string ⟨#[]⟩,.slice none 0 0,.slice none 0 0,.slice none 0 0,.slice none 0 0] 136 (0,0))∧wb.heap[sb]? =some (.cells #[.int .i64 0,.int .i64 p,.string ⟨#[]⟩,.string ⟨#[]⟩,.bool false,.slice none 0 0,.int .i64 0,.int .i64 0,.int .i64 0,.int .i64 0,.string ⟨#[]⟩,.slice none 0 0,.slice none 0 0,.slice none 0 0,.slice none 0 0] 136 (0,0))):=⟨hnb,hsbk⟩
 obtain⟨tx,htx⟩:∃tx,tx=(nx ts).2.2:=⟨_,rfl⟩
 rw[←htx] at HNX hin
 have HIN:Hid (tx=Par.wIf∨tx=Par.wWhile∨tx=Par.wVar):=hin
 clear hin
 have HTX:Hid (tx=(nx ts).2.2):=htx
 clear h hres hE hBk hb0 hn0 hrd0 hp0 hbb hnb hsbk hrdb htx
 go_enter Tryz.func107,Tryz.ntmps107
 go_wp2_with fail
 rw[←hw0]
 clear hw0
 refine HAT.mono ?_
 rintro x w0' ⟨rfl,hw0'⟩
 subst hw0'
 go_wp2_with fail
 rw[←hwb,←hsb]
 have hsl:w.heap.size<sb:=by omega
 clear hwb hsb
 refine HNX.mono ?_
 rintro x w2 ⟨rfl,hb2⟩
 have hlb:=lt_of_block HNb.out.2
 have HN2:Hid (w2.heap[w.heap.size]? =some (.cells #[.int .i64 0,.int .i64 0,.string ⟨#[]⟩,.string ⟨#[]⟩,.bool false,.slice none 0 0,.int .i64 0,.int .i64 0,.int .i64 0,.int .i64 0,.string ⟨#[]⟩,.slice none 0 0,.slice none 0 0,.slice none 0 0,.slice none 0 0] 136 (0,0))):=(hb2.block _ (lt_of_block HNb.out.1)).trans HNb.out.1
 have HS2:Hid (w2.heap[sb]? =some (.cells #[.int .i64 0,.int .i64 p,.string ⟨#[]⟩,.string ⟨#[]⟩,.bool false,.slice none 0 0,.int .i64 0,.int .i64 0,.int .i64 0,.int .i64 0,.string ⟨#[]⟩,.slice none 0 0,.slice none 0 0,.slice none 0 0,.slice none 0 0] 136 (0,0))):=(hb2.block _ hlb).trans HNb.out.2
 have HF2:Hid (Fr w.heap.size rb w w2):=HGb.out.trans (Fr.of_below (hb2.mono (by omega)))
 have HR2:Hid (Rd w2 rb e bl pr ts v):=HRb.out.keeps hb2 HRb.out.lt
 have hl2:sb<w2.heap.size:=lt_of_block HS2.out
 clear hb2 HAT HNX hlb
 by_cases h0:tx=Par.wIf
 ·have q0:((ba tx).toList==[105,102])=true:=by rw[ba_list,h0];decide
  obtain⟨t,r0,rfl⟩:∃t r0,ts=t::r0:=by
   cases ts with
   | nil=>have h9:=HTX.out;rw[h0] at h9;cases h9
   | cons t r0=>exact⟨t,r0,rfl⟩
  have htt:t.2.2=tx:=HTX.out.symm
  have HEQ:Hid (res=(Par.nestA (Par.exprR e 12) Bk true r0).bind fun q r=>.ok (.mk 3 p (ba []) (ba []) false [] q.1 q.2.1 q.2.2) r):=by
   show _=_
   rw[HRS.out]
   unfold Par.stmF
   rw[if_pos (by rw[←HTX.out];exact h0)]
   rw[HP0.out]
   unfold Par.ifR Par.nestA
   show(Par.exprR e 12 r0).bind _=((Par.exprR e 12 r0).bind _).bind _
   cases Par.exprR e 12 r0 with
   | no c q=>rfl
   | ok x r1=>
    show(Bk r1).bind _=((Bk r1).bind _).bind _
    cases Bk r1 with
    | no c q=>rfl
    | ok a r2=>
     cases hw:isT Par.wElse r2 with
     | false=>simp[Res.bind,Par.Res.bind,hw];rfl
     | true=>
      simp only[Par.Res.bind,hw,Bool.and_self,if_true]
      cases Bk r2.tail<;>rfl
  have HNE:=nestC (p:=p) HE.out HK.out HR2.out HS2.out (by omega) true (by rw[htt,h0];decide) 3 rfl
  clear htt h0
  go_wp2_with fail
  refine HNE.mono ?_
  rintro x w3 ⟨hf3,⟨qn,r3,hr3,u,v3,rfl,⟨rfl,z0,z1,z2,z3,z4,z5,m5,d5,z6,m6,d6,ao,an,ac,bo,bn,bc,hs3,hy3,ha3,hb3⟩,hrd3⟩|⟨c,q,hr,rfl,r,v',hrd⟩⟩
  rotate_left
  ·refine⟨rfl,(HF2.out.trans (hf3.mono (by omega))).grown,.inr ⟨c,q,?_,rfl,r,v',hrd⟩⟩
   rw[HEQ.out,hr];rfl
  have HG9:Hid (GoF w.heap.size w w3 rb e bl pr res (fun r=>.ok (.mk 3 p (ba []) (ba []) false [] qn.1 qn.2.1 qn.2.2) r) r3 v3):=⟨HF2.out.trans (hf3.mono (by omega)),hrd3,(by rw[HEQ.out,hr3];rfl),hlt⟩
  have hn3:w3.heap[w.heap.size]? =some (.cells #[.int .i64 0,.int .i64 0,.string ⟨#[]⟩,.string ⟨#[]⟩,.bool false,.slice none 0 0,.int .i64 0,.int .i64 0,.int .i64 0,.int .i64 0,.string ⟨#[]⟩,.slice none 0 0,.slice none 0 0,.slice none 0 0,.slice none 0 0] 136 (0,0)):=(hf3.block _ (by omega) (by omega)).trans HN2.out
  have HN9:Hid (w3.heap[w.heap.size]? =some (.cells #[.int .i64 0,.int .i64 0,.string ⟨#[]⟩,.string ⟨#[]⟩,.bool false,.slice none 0 0,.int .i64 0,.int .i64 0,.int .i64 0,.int .i64 0,.string ⟨#[]⟩,.slice none 0 0,.slice none 0 0,.slice none 0 0,.slice none 0 0] 136 (0,0))):=hn3
  have HST:Hid (StIs w3 (fun b=>sb<b) (.mk 3 p (ba []) (ba []) false [] qn.1 qn.2.1 qn.2.2) [.int .i64 3,.int .i64 p,.string ⟨#[]⟩,.string ⟨#[]⟩,.bool false,.slice none 0 0,.int .i64 z0,.int .i64 z1,.int .i64 z2,.int .i64 z3,.string z4,.slice z5 m5 d5,.slice z6 m6 d6,.slice ao an ac,.slice bo bn bc]):=StIs.of (by decide) (by decide) (labNone _ _) hy3 ha3 hb3
  obtain⟨⟨b0,b1,b2,b3,b4,b5,b6,b7,b8,b9,b10,b11,b12,b13,b14⟩,hzn⟩:=blkT hn3
  obtain⟨⟨x0,x1,x2,x3,x4,x5,x6,x7,x8,x9,x10,x11,x12,x13,x14⟩,_⟩:=blkT hs3
  have y0:=hzn 0
  have y1:=hzn 1
  have y2:=hzn 2
  have y3:=hzn 3
  have y4:=hzn 4
  have y5:=hzn 5
  have y6:=hzn 6
  have y7:=hzn 7
  have y8:=hzn 8
  have y9:=hzn 9
  have y10:=hzn 10
  have y11:=hzn 11
  have y12:=hzn 12
  have y13:=hzn 13
  have y14:=hzn 14
  have l9:=lt_of_block hn3
  have l8:=lt_of_block hs3
  clear hf3 hr3 hs3 hy3 ha3 hb3 hrd3 hn3 hzn HNE
  go_wp2
  obtain⟨wf,hwf⟩:∃wf,wf=(((((((((((((((w3).setCell ⟨w.heap.size,0,none⟩ (.int .i64 3)).setCell ⟨w.heap.size,1,none⟩ (.int .i64 p)).setCell ⟨w.heap.size,2,none⟩ (.string ⟨#[]⟩)).setCell ⟨w.heap.size,3,none⟩ (.string ⟨#[]⟩)).setCell ⟨w.heap.size,4,none⟩ (.bool false)).setCell ⟨w.heap.size,5,none⟩ (.slice none 0 0)).setCell ⟨w.heap.size,6,none⟩ (.int .i64 z0)).setCell ⟨w.heap.size,7,none⟩ (.int .i64 z1)).setCell ⟨w.heap.size,8,none⟩ (.int .i64 z2)).setCell ⟨w.heap.size,9,none⟩ (.int .i64 z3)).setCell ⟨w.heap.size,10,none⟩ (.string z4)).setCell ⟨w.heap.size,11,none⟩ (.slice z5 m5 d5)).setCell ⟨w.heap.size,12,none⟩ (.slice z6 m6 d6)).setCell ⟨w.heap.size,13,none⟩ (.slice ao an ac)).setCell ⟨w.heap.size,14,none⟩ (.slice bo bn bc):=⟨_,rfl⟩
  have hbf:Below w.heap.size w3 wf:=by
   rw[hwf]
   iterate 15 refine Below.setCell ?_ (by simp) _
   exact Below.refl _ _
  have hkf:Keeps (fun b=>sb<b) w3 wf:=⟨hbf.size,fun b hb _=>by rw[hwf];iterate 15 rw[Below.heap_setCell _ _ _ _ (by show b≠w.heap.size;omega)]⟩
  have hnf:wf.heap[w.heap.size]? =some (.cells #[.int .i64 3,.int .i64 p,.string ⟨#[]⟩,.string ⟨#[]⟩,.bool false,.slice none 0 0,.int .i64 z0,.int .i64 z1,.int .i64 z2,.int .i64 z3,.string z4,.slice z5 m5 d5,.slice z6 m6 d6,.slice ao an ac,.slice bo bn bc] 136 (0,0)):=by rw[hwf];simp[World.setCell,Array.getElem?_modify,HN9.out]
  rw[←hwf]
  exact stm_ret HG9.out hnf HST.out hkf hbf (by omega) rfl
 by_cases h1:tx=Par.wWhile
 ·have q0:((ba tx).toList==[105,102])=false:=by rw[ba_list];exact beq_eq_false_iff_ne.mpr (fun h=>h0 h)
  have q1:((ba tx).toList==[119,104,105,108,101])=true:=by rw[ba_list,h1];decide
  obtain⟨t,r0,rfl⟩:∃t r0,ts=t::r0:=by
   cases ts with
   | nil=>have h9:=HTX.out;rw[h1] at h9;cases h9
   | cons t r0=>exact⟨t,r0,rfl⟩
  have htt:t.2.2=tx:=HTX.out.symm
  have HEQ:Hid (res=(Par.nestA (Par.exprR e 12) Bk false r0).bind fun q r=>.ok (.mk 4 p (ba []) (ba []) false [] q.1 q.2.1 q.2.2) r):=by
   show _=_
   rw[HRS.out]
   unfold Par.stmF
   rw[if_neg (by rw[←HTX.out];exact h0)]
   rw[if_pos (by rw[←HTX.out];exact h1)]
   rw[HP0.out]
   unfold Par.whileR Par.nestA
   show(Par.exprR e 12 r0).bind _=((Par.exprR e 12 r0).bind _).bind _
   cases Par.exprR e 12 r0 with
   | no c q=>rfl
   | ok x r1=>
    show(Bk r1).bind _=((Bk r1).bind _).bind _
    cases Bk r1 with
    | no c q=>rfl
    | ok a r2=>
     rfl
  have HNE:=nestC (p:=p) HE.out HK.out HR2.out HS2.out (by omega) false (by rw[htt,h1];decide) 4 rfl
  clear htt h1
  go_wp2_with fail
  refine HNE.mono ?_
  rintro x w3 ⟨hf3,⟨qn,r3,hr3,u,v3,rfl,⟨rfl,z0,z1,z2,z3,z4,z5,m5,d5,z6,m6,d6,ao,an,ac,bo,bn,bc,hs3,hy3,ha3,hb3⟩,hrd3⟩|⟨c,q,hr,rfl,r,v',hrd⟩⟩
  rotate_left
  ·refine⟨rfl,(HF2.out.trans (hf3.mono (by omega))).grown,.inr ⟨c,q,?_,rfl,r,v',hrd⟩⟩
   rw[HEQ.out,hr];rfl
  have HG9:Hid (GoF w.heap.size w w3 rb e bl pr res (fun r=>.ok (.mk 4 p (ba []) (ba []) false [] qn.1 qn.2.1 qn.2.2) r) r3 v3):=⟨HF2.out.trans (hf3.mono (by omega)),hrd3,(by rw[HEQ.out,hr3];rfl),hlt⟩
  have hn3:w3.heap[w.heap.size]? =some (.cells #[.int .i64 0,.int .i64 0,.string ⟨#[]⟩,.string ⟨#[]⟩,.bool false,.slice none 0 0,.int .i64 0,.int .i64 0,.int .i64 0,.int .i64 0,.string ⟨#[]⟩,.slice none 0 0,.slice none 0 0,.slice none 0 0,.slice none 0 0] 136 (0,0)):=(hf3.block _ (by omega) (by omega)).trans HN2.out
  have HN9:Hid (w3.heap[w.heap.size]? =some (.cells #[.int .i64 0,.int .i64 0,.string ⟨#[]⟩,.string ⟨#[]⟩,.bool false,.slice none 0 0,.int .i64 0,.int .i64 0,.int .i64 0,.int .i64 0,.string ⟨#[]⟩,.slice none 0 0,.slice none 0 0,.slice none 0 0,.slice none 0 0] 136 (0,0))):=hn3
  have HST:Hid (StIs w3 (fun b=>sb<b) (.mk 4 p (ba []) (ba []) false [] qn.1 qn.2.1 qn.2.2) [.int .i64 4,.int .i64 p,.string ⟨#[]⟩,.string ⟨#[]⟩,.bool false,.slice none 0 0,.int .i64 z0,.int .i64 z1,.int .i64 z2,.int .i64 z3,.string z4,.slice z5 m5 d5,.slice z6 m6 d6,.slice ao an ac,.slice bo bn bc]):=StIs.of (by decide) (by decide) (labNone _ _) hy3 ha3 hb3
  obtain⟨⟨b0,b1,b2,b3,b4,b5,b6,b7,b8,b9,b10,b11,b12,b13,b14⟩,hzn⟩:=blkT hn3
  obtain⟨⟨x0,x1,x2,x3,x4,x5,x6,x7,x8,x9,x10,x11,x12,x13,x14⟩,_⟩:=blkT hs3
  have y0:=hzn 0
  have y1:=hzn 1
  have y2:=hzn 2
  have y3:=hzn 3
  have y4:=hzn 4
  have y5:=hzn 5
  have y6:=hzn 6
  have y7:=hzn 7
  have y8:=hzn 8
  have y9:=hzn 9
  have y10:=hzn 10
  have y11:=hzn 11
  have y12:=hzn 12
  have y13:=hzn 13
  have y14:=hzn 14
  have l9:=lt_of_block hn3
  have l8:=lt_of_block hs3
  clear hf3 hr3 hs3 hy3 ha3 hb3 hrd3 hn3 hzn HNE
  go_wp2
  obtain⟨wf,hwf⟩:∃wf,wf=(((((((((((((((w3).setCell ⟨w.heap.size,0,none⟩ (.int .i64 4)).setCell ⟨w.heap.size,1,none⟩ (.int .i64 p)).setCell ⟨w.heap.size,2,none⟩ (.string ⟨#[]⟩)).setCell ⟨w.heap.size,3,none⟩ (.string ⟨#[]⟩)).setCell ⟨w.heap.size,4,none⟩ (.bool false)).setCell ⟨w.heap.size,5,none⟩ (.slice none 0 0)).setCell ⟨w.heap.size,6,none⟩ (.int .i64 z0)).setCell ⟨w.heap.size,7,none⟩ (.int .i64 z1)).setCell ⟨w.heap.size,8,none⟩ (.int .i64 z2)).setCell ⟨w.heap.size,9,none⟩ (.int .i64 z3)).setCell ⟨w.heap.size,10,none⟩ (.string z4)).setCell ⟨w.heap.size,11,none⟩ (.slice z5 m5 d5)).setCell ⟨w.heap.size,12,none⟩ (.slice z6 m6 d6)).setCell ⟨w.heap.size,13,none⟩ (.slice ao an ac)).setCell ⟨w.heap.size,14,none⟩ (.slice bo bn bc):=⟨_,rfl⟩
  have hbf:Below w.heap.size w3 wf:=by
   rw[hwf]
   iterate 15 refine Below.setCell ?_ (by simp) _
   exact Below.refl _ _
  have hkf:Keeps (fun b=>sb<b) w3 wf:=⟨hbf.size,fun b hb _=>by rw[hwf];iterate 15 rw[Below.heap_setCell _ _ _ _ (by show b≠w.heap.size;omega)]⟩
  have hnf:wf.heap[w.heap.size]? =some (.cells #[.int .i64 4,.int .i64 p,.string ⟨#[]⟩,.string ⟨#[]⟩,.bool false,.slice none 0 0,.int .i64 z0,.int .i64 z1,.int .i64 z2,.int .i64 z3,.string z4,.slice z5 m5 d5,.slice z6 m6 d6,.slice ao an ac,.slice bo bn bc] 136 (0,0)):=by rw[hwf];simp[World.setCell,Array.getElem?_modify,HN9.out]
  rw[←hwf]
  exact stm_ret HG9.out hnf HST.out hkf hbf (by omega) rfl
 by_cases h2:tx=Par.wVar
 ·have q0:((ba tx).toList==[105,102])=false:=by rw[ba_list];exact beq_eq_false_iff_ne.mpr (fun h=>h0 h)
  have q1:((ba tx).toList==[119,104,105,108,101])=false:=by rw[ba_list];exact beq_eq_false_iff_ne.mpr (fun h=>h1 h)
  have q2:((ba tx).toList==[118,97,114])=true:=by rw[ba_list,h2];decide
  obtain⟨t,r0,rfl⟩:∃t r0,ts=t::r0:=by
   cases ts with
   | nil=>have h9:=HTX.out;rw[h2] at h9;cases h9
   | cons t r0=>exact⟨t,r0,rfl⟩
  have htt:t.2.2=tx:=HTX.out.symm
  have HEQ:Hid (res=(Par.letA e (Par.exprR e 12) r0).bind fun a r=>Par.semi e (.mk 1 p a.1 (ba []) a.2.1.1 a.2.1.2 a.2.2 [] []) r):=by
   show _=_
   rw[HRS.out]
   unfold Par.stmF
   rw[if_neg (by rw[←HTX.out];exact h0)]
   rw[if_neg (by rw[←HTX.out];exact h1)]
   rw[if_pos (by rw[←HTX.out];exact h2)]
   rw[HP0.out]
   exact Par.let_eq e (t::r0)
  have HNE:=letC (p:=p) HE.out HR2.out HS2.out (by omega)
  clear htt h2
  go_wp2_with fail
  refine HNE.mono ?_
  rintro x w3 ⟨hf3,⟨qn,r3,hr3,u,v3,rfl,⟨rfl,lo,ln,lc,z0,z1,z2,z3,z4,z5,m5,d5,z6,m6,d6,hs3,hsz3,hla3,hy3⟩,hrd3⟩|⟨c,q,hr,rfl,r,v',hrd⟩⟩
  rotate_left
  ·refine⟨rfl,(HF2.out.trans (hf3.mono (by omega))).grown,.inr ⟨c,q,?_,rfl,r,v',hrd⟩⟩
   rw[HEQ.out,hr];rfl
  have HGw3:Hid (GoF w.heap.size w w3 rb e bl pr res (fun ts=>(Par.must e [59] ts).bind fun _ r=>.ok (.mk 1 p qn.1 (ba []) qn.2.1.1 qn.2.1.2 qn.2.2 [] []) r) r3 v3):=⟨HF2.out.trans (hf3.mono (by omega)),hrd3,(by rw[HEQ.out,hr3];rfl),hlt⟩
  have HNw3:Hid (w3.heap[w.heap.size]? =some (.cells #[.int .i64 0,.int .i64 0,.string ⟨#[]⟩,.string ⟨#[]⟩,.bool false,.slice none 0 0,.int .i64 0,.int .i64 0,.int .i64 0,.int .i64 0,.string ⟨#[]⟩,.slice none 0 0,.slice none 0 0,.slice none 0 0,.slice none 0 0] 136 (0,0))):=(hf3.block _ (by omega) (by omega)).trans HN2.out
  have HSw3:Hid (w3.heap[sb]? =some (.cells #[.int .i64 1,.int .i64 p,.string qn.1,.string ⟨#[]⟩,.bool qn.2.1.1,.slice lo ln lc,.int .i64 z0,.int .i64 z1,.int .i64 z2,.int .i64 z3,.string z4,.slice z5 m5 d5,.slice z6 m6 d6,.slice none 0 0,.slice none 0 0] 136 (0,0))):=hs3
  have HLA:Hid (LabV w3 (fun b=>sb<b) (.slice lo ln lc) qn.2.1.2):=hla3
  have HYY:Hid (TrIs w3 (fun b=>sb<b) qn.2.2 [.int .i64 z0,.int .i64 z1,.int .i64 z2,.int .i64 z3,.string z4,.slice z5 m5 d5,.slice z6 m6 d6]):=hy3
  have HSZ:Hid (qn.1.size≤maxLen):=hsz3
  have hl3:sb<w3.heap.size:=lt_of_block hs3
  clear hf3 hr3 hs3 hsz3 hla3 hy3 hrd3 HNE
  go_wp2_with fail
  refine(rMust_any ⟨#[59]⟩ (by decide) HGw3.out.rd).mono ?_
  intro x wz hp
  rcases goF_of (P:=Par.must e [59]) HGw3.out (by omega) hp with⟨a9,r9,u,v9,rfl,rfl,hq9,hg9⟩|⟨hgr,c,q,hr,rfl,r,v',hrd⟩
  rotate_left
  ·exact⟨rfl,hgr.grown,.inr ⟨c,q,hr,rfl,r,v',hrd⟩⟩
  have HST:Hid (StIs wz (fun b=>sb<b) _ [.int .i64 1,.int .i64 p,.string qn.1,.string ⟨#[]⟩,.bool qn.2.1.1,.slice lo ln lc,.int .i64 z0,.int .i64 z1,.int .i64 z2,.int .i64 z3,.string z4,.slice z5 m5 d5,.slice z6 m6 d6,.slice none 0 0,.slice none 0 0]):=StIs.keeps (StIs.of (a:=[]) (b:=[]) HSZ.out (by decide) HLA.out HYY.out (RwV.none _ _ _ _) (RwV.none _ _ _ _)) (Keeps.of_grown hq9 fun b hb=>by simp;omega)
  have hn9:=go_blk hq9 HNw3.out (by omega)
  have hs9:=go_blk hq9 HSw3.out (by omega)
  have HN9:Hid (wz.heap[w.heap.size]? =some (.cells #[.int .i64 0,.int .i64 0,.string ⟨#[]⟩,.string ⟨#[]⟩,.bool false,.slice none 0 0,.int .i64 0,.int .i64 0,.int .i64 0,.int .i64 0,.string ⟨#[]⟩,.slice none 0 0,.slice none 0 0,.slice none 0 0,.slice none 0 0] 136 (0,0))):=hn9
  have HG9:Hid _:=hg9
  obtain⟨⟨b0,b1,b2,b3,b4,b5,b6,b7,b8,b9,b10,b11,b12,b13,b14⟩,hzn⟩:=blkT hn9
  obtain⟨⟨x0,x1,x2,x3,x4,x5,x6,x7,x8,x9,x10,x11,x12,x13,x14⟩,_⟩:=blkT hs9
  have y0:=hzn 0
  have y1:=hzn 1
  have y2:=hzn 2
  have y3:=hzn 3
  have y4:=hzn 4
  have y5:=hzn 5
  have y6:=hzn 6
  have y7:=hzn 7
  have y8:=hzn 8
  have y9:=hzn 9
  have y10:=hzn 10
  have y11:=hzn 11
  have y12:=hzn 12
  have y13:=hzn 13
  have y14:=hzn 14
  have l9:=lt_of_block hn9
  have l8:=lt_of_block hs9
  clear hp hq9 hg9 hn9 hs9 hzn
  go_wp2
  obtain⟨wf,hwf⟩:∃wf,wf=(((((((((((((((wz).setCell ⟨w.heap.size,0,none⟩ (.int .i64 1)).setCell ⟨w.heap.size,1,none⟩ (.int .i64 p)).setCell ⟨w.heap.size,2,none⟩ (.string qn.1)).setCell ⟨w.heap.size,3,none⟩ (.string ⟨#[]⟩)).setCell ⟨w.heap.size,4,none⟩ (.bool qn.2.1.1)).setCell ⟨w.heap.size,5,none⟩ (.slice lo ln lc)).setCell ⟨w.heap.size,6,none⟩ (.int .i64 z0)).setCell ⟨w.heap.size,7,none⟩ (.int .i64 z1)).setCell ⟨w.heap.size,8,none⟩ (.int .i64 z2)).setCell ⟨w.heap.size,9,none⟩ (.int .i64 z3)).setCell ⟨w.heap.size,10,none⟩ (.string z4)).setCell ⟨w.heap.size,11,none⟩ (.slice z5 m5 d5)).setCell ⟨w.heap.size,12,none⟩ (.slice z6 m6 d6)).setCell ⟨w.heap.size,13,none⟩ (.slice none 0 0)).setCell ⟨w.heap.size,14,none⟩ (.slice none 0 0):=⟨_,rfl⟩
  have hbf:Below w.heap.size wz wf:=by
   rw[hwf]
   iterate 15 refine Below.setCell ?_ (by simp) _
   exact Below.refl _ _
  have hkf:Keeps (fun b=>sb<b) wz wf:=⟨hbf.size,fun b hb _=>by rw[hwf];iterate 15 rw[Below.heap_setCell _ _ _ _ (by show b≠w.heap.size;omega)]⟩
  have hnf:wf.heap[w.heap.size]? =some (.cells #[.int .i64 1,.int .i64 p,.string qn.1,.string ⟨#[]⟩,.bool qn.2.1.1,.slice lo ln lc,.int .i64 z0,.int .i64 z1,.int .i64 z2,.int .i64 z3,.string z4,.slice z5 m5 d5,.slice z6 m6 d6,.slice none 0 0,.slice none 0 0] 136 (0,0)):=by rw[hwf];simp[World.setCell,Array.getElem?_modify,HN9.out]
  rw[←hwf]
  exact stm_ret HG9.out hnf HST.out hkf hbf (by omega) rfl
 rcases HIN.out with h | h | h
 ·exact absurd h h0
 ·exact absurd h h1
 ·exact absurd h h2
end Go.Proofs.YtepkhlpjgnckkaaGreatDoor
