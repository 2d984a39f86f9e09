/- parse's reader of programs: proc. Several lists that a call gathers side by side: each with blocks of its own. -/
import Derived.Test.YtepkhlpjgnckkaaGreatDoorZC6
namespace Go.Proofs.YtepkhlpjgnckkaaGreatDoor
set_option maxRecDepth 100000
set_option maxHeartbeats 8000000
open Go.RowKit
open Par (Tok Po Tr nx atP isT ba Res Stm Prm Chn Prc Prg)
theorem blk9 {w:World}{b:Nat}{x0 x1 x2 x3 x4 x5 x6 x7 x8:Value}{e:TypeId}(h:w.heap[b]? =some (.cells #[x0,x1,x2,x3,x4,x5,x6,x7,x8] e (0,0))):(w.cell? ⟨b,0,none⟩=some x0∧w.cell? ⟨b,1,none⟩=some x1∧w.cell? ⟨b,2,none⟩=some x2∧w.cell? ⟨b,3,none⟩=some x3∧w.cell? ⟨b,4,none⟩=some x4∧w.cell? ⟨b,5,none⟩=some x5∧w.cell? ⟨b,6,none⟩=some x6∧w.cell? ⟨b,7,none⟩=some x7∧w.cell? ⟨b,8,none⟩=some x8)∧∀i,w.frozen? ⟨b,i,none⟩=false:=by
 refine⟨⟨?_,?_,?_,?_,?_,?_,?_,?_,?_⟩,fun i=> ?_⟩<;>simp[World.cell?,World.frozen?,h]
def Par.resultD (e:Nat)(t:Prm)(ts:List Tok):Res Prm:=if isT [58] ts=true then(Par.kindR e ts).bind fun k r=>.ok ⟨ba [],k.1,k.2⟩ r else .ok t ts
def Par.beginD (e:Nat)(l:List Po)(ts:List Tok):Res (List Po):=if isT Par.wBegin ts=true then Par.labelR e ts.tail else .ok l ts
def Par.forD (e:Nat)(l:List ByteArray)(ts:List Tok):Res (List ByteArray):=if isT Par.wFor ts=true then Par.listR e [44] 6 (Par.nameR e) ts.tail else .ok l ts
theorem strsNone (w:World)(S:Nat→Prop):StrsV w S (.slice none 0 0) []:=⟨RowV.none _ _ _ _,fun s hs=>by cases hs⟩
def PcS (w wc:World)(rb e pb:Nat)(res:Res Prc)(p:Int)(s:ByteArray)(q:List Prm)(K:Prm→List Po→List ByteArray→List Tok→Res Prc):Prop:=
 ∃(t:Prm) (bg:List Po) (fr:List ByteArray) (po:Option Addr) (pn pc:Nat) (lo:Option Addr) (ln lc:Nat) (bo:Option Addr) (bn bc:Nat) (fo:Option Addr) (fn fc:Nat) (r:List Tok) (v:Value),wc.heap[w.heap.size]? =some (.cells #[.int .i64 0,.string ⟨#[]⟩,.slice none 0 0,.string ⟨#[]⟩,.int .i64 0,.slice none 0 0,.slice none 0 0,.slice none 0 0,.slice none 0 0] 88 (0,0))∧wc.heap[pb]? =some (.cells #[.int .i64 p,.string s,.slice po pn pc,.string t.name,.int .i64 t.type,.slice lo ln lc,.slice bo bn bc,.slice fo fn fc,.slice none 0 0] 88 (0,0))∧t.name.size≤maxLen∧RwV PmIs wc (fun b=>pb<b) 3 (.slice po pn pc) q∧LabV wc (fun b=>pb<b) (.slice lo ln lc) t.lab∧LabV wc (fun b=>pb<b) (.slice bo bn bc) bg∧StrsV wc (fun b=>pb<b) (.slice fo fn fc) fr∧GoF w.heap.size w wc rb e 0 0 res (K t bg fr) r v
theorem rwM_keeps {w w':World}{S:Nat→Prop}{v:Value}{l:List Prm}(h:RwV PmIs w S 3 v l)(k:Keeps S w w'):RwV PmIs w' S 3 v l:=h.keeps (fun h=>isElM.keeps h k) k
theorem pc_ret {w wz wf:World}{rb e pb:Nat}{res:Res Prc}{r:List Tok}{v:Value}{tm:Array Value}{p:Int}{s:ByteArray}{q:List Prm}{t:Prm}{bg:List Po}{fr:List ByteArray}{y:List Stm}{po:Option Addr}{pn pc:Nat}{lo:Option Addr}{ln lc:Nat}{bo:Option Addr}{bn bc:Nat}{fo:Option Addr}{fn fc:Nat}{yo:Option Addr}{yn yc:Nat}(hg:GoF w.heap.size w wz rb e 0 0 res (fun r=>.ok (⟨p,s,q,t,bg,fr,y⟩:Prc) r) r v)(hn:wf.heap[w.heap.size]? =some (.cells #[.int .i64 p,.string s,.slice po pn pc,.string t.name,.int .i64 t.type,.slice lo ln lc,.slice bo bn bc,.slice fo fn fc,.slice yo yn yc] 88 (0,0)))
 (hs:PcIs wz (fun b=>pb<b) (⟨p,s,q,t,bg,fr,y⟩:Prc) [.int .i64 p,.string s,.slice po pn pc,.string t.name,.int .i64 t.type,.slice lo ln lc,.slice bo bn bc,.slice fo fn fc,.slice yo yn yc]) (hk:Keeps (fun b=>pb<b) wz wf) (hb:Below w.heap.size wz wf) (hl:w.heap.size≤pb) (h2:tm[2]? =some (.pointer (some ⟨w.heap.size,0,none⟩))):
 bodyPost Tryz.prog Tryz.f45 (Post w rb e 0 0 res (VQ w.heap.size)) .ret {tmps:=tm,defers:=[]} wf:=by
 obtain⟨⟨d0,d1,d2,d3,d4,d5,d6,d7,d8⟩,_⟩:=blk9 hn
 refine bodyPost_ret (v:=.agg #[.int .i64 p,.string s,.slice po pn pc,.string t.name,.int .i64 t.type,.slice lo ln lc,.slice bo bn bc,.slice fo fn fc,.slice yo yn yc]) (by simp[results,Tryz.results45,go_sem,h2,d0,d1,d2,d3,d4,d5,d6,d7,d8]) rfl ?_
 exact⟨(hg.fr.trans (Fr.of_below hb)).grown,.inl ⟨_,r,hg.eq,_,v,rfl,⟨_,_,_,_,_,_,_,_,_,_,_,_,_,_,_,_,_,_,_,rfl,isElPc.mono (isElPc.keeps hs hk) fun b hb _=>by omega⟩,hg.rd.keeps hb hg.lo⟩⟩
theorem procC {w:World}{rb e:Nat}{ts:List Tok}{v:Value}(hA:AtoiC)(h:Rd w rb e 0 0 ts v):
 Calls Tryz.prog 45 #[.pointer (some ⟨rb,0,none⟩)] w (Post w rb e 0 0 (Par.procR e ts) (VQ w.heap.size)):=by
 have hmf:=mkF
 obtain⟨res,hres⟩:∃res,res=Par.procR e ts:=⟨_,rfl⟩
 rw[←hres]
 have HBK:Hid (BlkC rb e 0 0 (Par.block e 12)):=blk_all hA 12 (Nat.le_refl _)
 have hlt:=h.lt
 obtain⟨w0,hw0⟩:∃w0,w0=w.alloc (.cells #[.int .i64 0,.string ⟨#[]⟩,.slice none 0 0,.string ⟨#[]⟩,.int .i64 0,.slice none 0 0,.slice none 0 0,.slice none 0 0,.slice none 0 0] 88):=⟨_,rfl⟩
 have hb0:Below w.heap.size w w0:=by rw[hw0];exact(Below.refl _ _).alloc (Nat.le_refl _) _
 have HN0:Hid (w0.heap[w.heap.size]? =some (.cells #[.int .i64 0,.string ⟨#[]⟩,.slice none 0 0,.string ⟨#[]⟩,.int .i64 0,.slice none 0 0,.slice none 0 0,.slice none 0 0,.slice none 0 0] 88 (0,0))):=by show _=_;rw[hw0];exact heap_at_alloc _ _ _ rfl
 have hs0:w0.heap.size=w.heap.size+1:=by rw[hw0];simp
 have HG0:Hid (GoF w.heap.size w w0 rb e 0 0 res (fun ts=>(Par.must e Par.wProc ts).bind fun p r1=>(Par.nameR e r1).bind fun s r2=>(Par.encl e [40] [44] [41] 4 (Par.paramR e) r2).bind fun q r3=>(fun t bg fr r3=>(Par.resultD e t r3).bind fun t r4=>(Par.beginD e bg r4).bind fun bg r5=>(Par.forD e fr r5).bind fun fr r6=>(Par.block e 12 r6).bind fun y r7=>.ok (⟨(p:Int),s,q,t,bg,fr,y⟩:Prc) r7) Par.noP [] [] r3) ts v):=⟨Fr.of_below hb0,h.keeps hb0 h.lt,hres,hlt⟩
 clear h hres hb0 hA
 go_enter Tryz.func45,Tryz.ntmps45
 go_wp2_with fail
 rw[←hw0]
 clear hw0
 refine(rMust_any ⟨#[112,114,111,99]⟩ (by decide) HG0.out.rd).mono ?_
 intro x w1 hp
 rcases goF_of (P:=Par.must e Par.wProc) HG0.out (by omega) hp with⟨p0,r1,u,v1,rfl,rfl,hq1,hg1⟩|⟨hgr,c,q',hr,rfl,r,v',hrd⟩
 rotate_left
 ·exact⟨rfl,hgr.grown,.inr ⟨c,q',hr,rfl,r,v',hrd⟩⟩
 obtain⟨p,hp0⟩:∃p:Int,p=(p0:Int):=⟨_,rfl⟩
 have hg1':GoF w.heap.size w w1 rb e 0 0 res (fun r1=>(Par.nameR e r1).bind fun s r2=>(Par.encl e [40] [44] [41] 4 (Par.paramR e) r2).bind fun q r3=>(fun t bg fr r3=>(Par.resultD e t r3).bind fun t r4=>(Par.beginD e bg r4).bind fun bg r5=>(Par.forD e fr r5).bind fun fr r6=>(Par.block e 12 r6).bind fun y r7=>.ok (⟨p,s,q,t,bg,fr,y⟩:Prc) r7) Par.noP [] [] r3) r1 v1:=by rw[hp0];exact hg1
 rw[←hp0]
 have HN1:Hid (w1.heap[w.heap.size]? =some (.cells #[.int .i64 0,.string ⟨#[]⟩,.slice none 0 0,.string ⟨#[]⟩,.int .i64 0,.slice none 0 0,.slice none 0 0,.slice none 0 0,.slice none 0 0] 88 (0,0))):=go_blk hq1 HN0.out (by omega)
 have HG1:Hid _:=hg1'
 have hl1:w.heap.size<w1.heap.size:=lt_of_block HN1.out
 clear hp hq1 hg1 hg1' hp0 hs0
 go_wp2_with fail
 refine(rName_any HG1.out.rd).mono ?_
 intro x w2 hp
 rcases goF_of HG1.out (by omega) hp with⟨s,r2,u,v2,rfl,⟨rfl,hsz⟩,hq2,hg2⟩|⟨hgr,c,q',hr,rfl,r,v',hrd⟩
 rotate_left
 ·exact⟨rfl,hgr.grown,.inr ⟨c,q',hr,rfl,r,v',hrd⟩⟩
 have hn2:=go_blk hq2 HN1.out (by omega)
 have HSZ:Hid (s.size≤maxLen):=hsz
 obtain⟨w3,hw3⟩:∃w3,w3=w2.alloc (.cells #[.int .i64 p,.string s,.slice none 0 0,.string ⟨#[]⟩,.int .i64 0,.slice none 0 0,.slice none 0 0,.slice none 0 0,.slice none 0 0] 88):=⟨_,rfl⟩
 have hb3:Below w2.heap.size w2 w3:=by rw[hw3];exact(Below.refl _ _).alloc (Nat.le_refl _) _
 have hl2:w.heap.size<w2.heap.size:=lt_of_block hn2
 have HN3:Hid (w3.heap[w.heap.size]? =some (.cells #[.int .i64 0,.string ⟨#[]⟩,.slice none 0 0,.string ⟨#[]⟩,.int .i64 0,.slice none 0 0,.slice none 0 0,.slice none 0 0,.slice none 0 0] 88 (0,0))):=(hb3.block _ hl2).trans hn2
 have HS3:Hid (w3.heap[w2.heap.size]? =some (.cells #[.int .i64 p,.string s,.slice none 0 0,.string ⟨#[]⟩,.int .i64 0,.slice none 0 0,.slice none 0 0,.slice none 0 0,.slice none 0 0] 88 (0,0))):=by show _=_;rw[hw3];exact heap_at_alloc _ _ _ rfl
 have hg3:=hg2.later (hb3.mono (by omega))
 have HG3:Hid _:=hg3
 obtain⟨pb,hpb⟩:∃pb,pb=w2.heap.size:=⟨_,rfl⟩
 rw[←hpb] at HS3 hl2
 have hl3:pb<w3.heap.size:=lt_of_block HS3.out
 have HEN:=enclM HG3.out.rd ⟨#[40]⟩ ⟨#[44]⟩ ⟨#[41]⟩ (by decide) (by decide) (by decide) 4 (by omega) (by omega) 62 #[.pointer (some ⟨rb,0,none⟩)] #[] (enters_of Tryz.func62 (by kernel_rfl) rfl) (Par.paramR e) (fun w' ts' v' _ hr=>paramC hr)
 clear hp hq2 hg2 hn2 hb3 hg3 hsz
 go_wp2_with fail
 rw[←hw3,←hpb]
 clear hw3 hpb
 refine HEN.mono ?_
 intro x w4 hp
 rcases goF_of (P:=Par.encl e [40] [44] [41] 4 (Par.paramR e)) HG3.out (by omega) hp with⟨q,r4,u,v4,rfl,⟨B,hB,ho⟩,hq4,hg4⟩|⟨hgr,c,q',hr,rfl,r,v',hrd⟩
 rotate_left
 ·exact⟨rfl,hgr.grown,.inr ⟨c,q',hr,rfl,r,v',hrd⟩⟩
 obtain⟨po,pc,rfl⟩:=ho.slice
 obtain⟨pn,hpn⟩:∃pn,q.length=pn:=⟨_,rfl⟩
 have hrw:=rwM_keeps (S:=(fun b=>pb<b)) ((ho.rows isElM).mono (S':=(fun b=>pb<b)) (fun h=>isElM.mono h fun b hb _=>by omega) fun b hb _=>by omega) (Keeps.refl _ _)
 rw[hpn] at hrw⊢
 have hn4:=go_blk hq4 HN3.out (by omega)
 have hs4:=go_blk hq4 HS3.out (by omega)
 obtain⟨⟨a0,a1,a2,a3,a4,a5,a6,a7,a8⟩,hz⟩:=blk9 hs4
 have hz2:=hz 2
 have l4:=lt_of_block hs4
 obtain⟨w5,hw5⟩:∃w5,w5=w4.setCell ⟨pb,2,none⟩ (.slice po pn pc):=⟨_,rfl⟩
 have hb5:Below pb w4 w5:=by rw[hw5];exact(Below.refl _ _).setCell (by simp) _
 have hk5:Keeps (fun b=>pb<b) w4 w5:=⟨hb5.size,fun b hb _=>by rw[hw5,Below.heap_setCell _ _ _ _ (by show b≠pb;omega)]⟩
 have hs5:w5.heap[pb]? =some (.cells #[.int .i64 p,.string s,.slice po pn pc,.string ⟨#[]⟩,.int .i64 0,.slice none 0 0,.slice none 0 0,.slice none 0 0,.slice none 0 0] 88 (0,0)):=by rw[hw5];simp[World.setCell,Array.getElem?_modify,hs4]
 have HP5:Hid (PcS w w5 rb e pb res p s q (fun t bg fr r3=>(Par.resultD e t r3).bind fun t r4=>(Par.beginD e bg r4).bind fun bg r5=>(Par.forD e fr r5).bind fun fr r6=>(Par.block e 12 r6).bind fun y r7=>.ok (⟨p,s,q,t,bg,fr,y⟩:Prc) r7)):=⟨Par.noP,[],[],po,pn,pc,none,0,0,none,0,0,none,0,0,r4,v4,(hb5.block _ (by omega)).trans hn4,hs5,by decide,rwM_keeps hrw hk5,labNone _ _,labNone _ _,strsNone _ _,hg4.later (hb5.mono (by omega))⟩
 clear hp hq4 hg4 hn4 hz ho HEN hs4 hk5 hb5 hrw hpn hs5 hB
 obtain⟨t,bg,fr,po,pn,pc,lo,ln,lc,bo,bn,bc,fo,fn,fc,rr,vv,hn,hs,htn,hq,hl,hb,hf,hg⟩:=HP5.out
 have HN:Hid (w5.heap[w.heap.size]? =some (.cells #[.int .i64 0,.string ⟨#[]⟩,.slice none 0 0,.string ⟨#[]⟩,.int .i64 0,.slice none 0 0,.slice none 0 0,.slice none 0 0,.slice none 0 0] 88 (0,0))):=hn
 have HS:Hid (w5.heap[pb]? =some (.cells #[.int .i64 p,.string s,.slice po pn pc,.string t.name,.int .i64 t.type,.slice lo ln lc,.slice bo bn bc,.slice fo fn fc,.slice none 0 0] 88 (0,0))):=hs
 have HT:Hid (t.name.size≤maxLen):=htn
 have HQ:Hid (RwV PmIs w5 (fun b=>pb<b) 3 (.slice po pn pc) q):=hq
 have HL:Hid (LabV w5 (fun b=>pb<b) (.slice lo ln lc) t.lab):=hl
 have HB:Hid (LabV w5 (fun b=>pb<b) (.slice bo bn bc) bg):=hb
 have HF:Hid (StrsV w5 (fun b=>pb<b) (.slice fo fn fc) fr):=hf
 have HG:Hid (GoF w.heap.size w w5 rb e 0 0 res ((fun t bg fr r3=>(Par.resultD e t r3).bind fun t r4=>(Par.beginD e bg r4).bind fun bg r5=>(Par.forD e fr r5).bind fun fr r6=>(Par.block e 12 r6).bind fun y r7=>.ok (⟨p,s,q,t,bg,fr,y⟩:Prc) r7) t bg fr) rr vv):=hg
 have hlw:pb<w5.heap.size:=lt_of_block hs
 clear hn hs htn hq hl hb hf hg
 have HIS:=rIs_any ⟨#[58]⟩ HG.out.rd
 clear HP5
 go_wp2_with fail
 rw[←hw5]
 clear hw5 a0 a1 a2 a3 a4 a5 a6 a7 a8 hz2
 refine HIS.mono ?_
 rintro x w6 ⟨rfl,hb6⟩
 have hk:Keeps (fun b=>pb<b) w5 w6:=Keeps.of_below hb6
 have HN2:Hid (w6.heap[w.heap.size]? =some (.cells #[.int .i64 0,.string ⟨#[]⟩,.slice none 0 0,.string ⟨#[]⟩,.int .i64 0,.slice none 0 0,.slice none 0 0,.slice none 0 0,.slice none 0 0] 88 (0,0))):=(hb6.block _ (lt_of_block HN.out)).trans HN.out
 have HS2:Hid (w6.heap[pb]? =some (.cells #[.int .i64 p,.string s,.slice po pn pc,.string t.name,.int .i64 t.type,.slice lo ln lc,.slice bo bn bc,.slice fo fn fc,.slice none 0 0] 88 (0,0))):=(hb6.block _ (lt_of_block HS.out)).trans HS.out
 have HQ2:Hid (RwV PmIs w6 (fun b=>pb<b) 3 (.slice po pn pc) q):=rwM_keeps HQ.out hk
 have HL2:Hid (LabV w6 (fun b=>pb<b) (.slice lo ln lc) t.lab):=HL.out.keeps hk
 have HB2:Hid (LabV w6 (fun b=>pb<b) (.slice bo bn bc) bg):=HB.out.keeps hk
 have HF2:Hid (StrsV w6 (fun b=>pb<b) (.slice fo fn fc) fr):=HF.out.keeps hk
 have HR2:Hid (Fr w.heap.size rb w w6):=HG.out.fr.trans (Fr.of_below (hb6.mono (by omega)))
 have hlw2:pb<w6.heap.size:=lt_of_block HS2.out
 clear hk HN HS HQ HL HB HF hlw
 have HRD:Hid (Rd w6 rb e 0 0 rr vv):=HG.out.rd.keeps hb6 HG.out.rd.lt
 have HEQ:Hid (res=(fun t bg fr r3=>(Par.resultD e t r3).bind fun t r4=>(Par.beginD e bg r4).bind fun bg r5=>(Par.forD e fr r5).bind fun fr r6=>(Par.block e 12 r6).bind fun y r7=>.ok (⟨p,s,q,t,bg,fr,y⟩:Prc) r7) t bg fr rr):=HG.out.eq
 obtain⟨i1,hi1⟩:∃i1,isT (⟨#[58]⟩:ByteArray).data.toList rr=i1:=⟨_,rfl⟩
 rw[hi1]
 have HI:Hid (isT [58] rr=i1):=hi1
 clear hb6 HIS HG hi1
 go_upto_if 15 with fail
 go_cut [] (fun wc=>Hid (PcS w wc rb e pb res p s q (fun t bg fr r4=>(Par.beginD e bg r4).bind fun bg r5=>(Par.forD e fr r5).bind fun fr r6=>(Par.block e 12 r6).bind fun y r7=>.ok (⟨p,s,q,t,bg,fr,y⟩:Prc) r7)))
 case first=>
  cases i1 with
  | true=>
   have HGt:Hid (GoF w.heap.size w w6 rb e 0 0 res (fun r=>((fun ts=>(Par.kindR e ts).bind fun k r=>.ok (⟨ba [],k.1,k.2⟩:Prm) r) r).bind fun t r4=>(fun t bg fr r4=>(Par.beginD e bg r4).bind fun bg r5=>(Par.forD e fr r5).bind fun fr r6=>(Par.block e 12 r6).bind fun y r7=>.ok (⟨p,s,q,t,bg,fr,y⟩:Prc) r7) t bg fr r4) rr vv):=by
    refine⟨HR2.out,HRD.out,?_,hlt⟩
    rw[HEQ.out]
    have h9:Par.resultD e t rr=(Par.kindR e rr).bind fun k r=>.ok (⟨ba [],k.1,k.2⟩:Prm) r:=by unfold Par.resultD;exact if_pos HI.out
    simp only[h9]
   go_wp2_with fail
   refine(kindC HGt.out.rd).mono ?_
   intro x w7 hp
   rcases goF_of (P:=(fun ts=>(Par.kindR e ts).bind fun k r=>.ok (⟨ba [],k.1,k.2⟩:Prm) r)) HGt.out (by omega) hp with⟨t2,r7,u,v7,rfl,⟨z0,z1,z2,m2,d2,rfl,hpm⟩,hq7,hg7⟩|⟨hgr,c,q',hr,rfl,r,v',hrd⟩
   rotate_left
   ·exact⟨rfl,hgr.grown,.inr ⟨c,q',hr,rfl,r,v',hrd⟩⟩
   obtain⟨lvv,e1,htz,hlab⟩:=hpm
   cases e1
   have hk7:Keeps (fun b=>pb<b) w6 w7:=Keeps.of_grown hq7 fun b hb=>by simp;omega
   have hn7:w7.heap[w.heap.size]? =some (.cells #[.int .i64 0,.string ⟨#[]⟩,.slice none 0 0,.string ⟨#[]⟩,.int .i64 0,.slice none 0 0,.slice none 0 0,.slice none 0 0,.slice none 0 0] 88 (0,0)):=go_blk hq7 HN2.out (by omega)
   have hs7:w7.heap[pb]? =some (.cells #[.int .i64 p,.string s,.slice po pn pc,.string t.name,.int .i64 t.type,.slice lo ln lc,.slice bo bn bc,.slice fo fn fc,.slice none 0 0] 88 (0,0)):=go_blk hq7 HS2.out (by omega)
   obtain⟨⟨a0,a1,a2,a3,a4,a5,a6,a7,a8⟩,hz⟩:=blk9 hs7
   have hz3:=hz 3
   have hz4:=hz 4
   have hz5:=hz 5
   have l7:pb<w7.heap.size:=lt_of_block hs7
   obtain⟨wf,hwf⟩:∃wf,wf=(((w7).setCell ⟨pb,3,none⟩ (.string t2.name)).setCell ⟨pb,4,none⟩ (.int .i64 t2.type)).setCell ⟨pb,5,none⟩ (.slice z2 m2 d2):=⟨_,rfl⟩
   have hbf:Below pb w7 wf:=by
    rw[hwf]
    iterate 3 refine Below.setCell ?_ (by simp) _
    exact Below.refl _ _
   have hkf:Keeps (fun b=>pb<b) w7 wf:=⟨hbf.size,fun b hb _=>by rw[hwf];iterate 3 rw[Below.heap_setCell _ _ _ _ (by show b≠pb;omega)]⟩
   have HPF:Hid (PcS w wf rb e pb res p s q (fun t bg fr r4=>(Par.beginD e bg r4).bind fun bg r5=>(Par.forD e fr r5).bind fun fr r6=>(Par.block e 12 r6).bind fun y r7=>.ok (⟨p,s,q,t,bg,fr,y⟩:Prc) r7)):=by
    refine⟨t2,bg,fr,po,pn,pc,z2,m2,d2,bo,bn,bc,fo,fn,fc,r7,v7,(hbf.block _ (by omega)).trans hn7,?_,htz,rwM_keeps HQ2.out (hk7.trans hkf),(LabV.mono hlab fun b hb _=>by omega).keeps hkf,HB2.out.keeps (hk7.trans hkf),HF2.out.keeps (hk7.trans hkf),hg7.later (hbf.mono (by omega))⟩
    rw[hwf];simp[World.setCell,Array.getElem?_modify,hs7]
   have HWF:Hid (wf=(((w7).setCell ⟨pb,3,none⟩ (.string t2.name)).setCell ⟨pb,4,none⟩ (.int .i64 t2.type)).setCell ⟨pb,5,none⟩ (.slice z2 m2 d2)):=hwf
   clear hp hq7 hg7 hn7 hs7 hz hbf hkf hk7 hwf hlab htz
   go_wp2
   go_meet
   case rel=>rw[←HWF.out];exact HPF.out
  | false=>
   have HGf:Hid (GoF w.heap.size w w6 rb e 0 0 res ((fun t bg fr r4=>(Par.beginD e bg r4).bind fun bg r5=>(Par.forD e fr r5).bind fun fr r6=>(Par.block e 12 r6).bind fun y r7=>.ok (⟨p,s,q,t,bg,fr,y⟩:Prc) r7) t bg fr) rr vv):=by
    refine⟨HR2.out,HRD.out,?_,hlt⟩
    rw[HEQ.out]
    have h9:Par.resultD e t rr=.ok t rr:=by unfold Par.resultD;exact if_neg (by rw[HI.out];simp)
    simp only[h9]
    rfl
   go_wp2
   go_meet
   case rel=>exact⟨t,bg,fr,po,pn,pc,lo,ln,lc,bo,bn,bc,fo,fn,fc,rr,vv,HN2.out,HS2.out,HT.out,HQ2.out,HL2.out,HB2.out,HF2.out,HGf.out⟩
 case rest=>
  obtain⟨t,bg,fr,po,pn,pc,lo,ln,lc,bo,bn,bc,fo,fn,fc,rr,vv,hn,hs,htn,hq,hl,hb,hf,hg⟩:=hcut.out
  have HN:Hid (wc.heap[w.heap.size]? =some (.cells #[.int .i64 0,.string ⟨#[]⟩,.slice none 0 0,.string ⟨#[]⟩,.int .i64 0,.slice none 0 0,.slice none 0 0,.slice none 0 0,.slice none 0 0] 88 (0,0))):=hn
  have HS:Hid (wc.heap[pb]? =some (.cells #[.int .i64 p,.string s,.slice po pn pc,.string t.name,.int .i64 t.type,.slice lo ln lc,.slice bo bn bc,.slice fo fn fc,.slice none 0 0] 88 (0,0))):=hs
  have HT:Hid (t.name.size≤maxLen):=htn
  have HQ:Hid (RwV PmIs wc (fun b=>pb<b) 3 (.slice po pn pc) q):=hq
  have HL:Hid (LabV wc (fun b=>pb<b) (.slice lo ln lc) t.lab):=hl
  have HB:Hid (LabV wc (fun b=>pb<b) (.slice bo bn bc) bg):=hb
  have HF:Hid (StrsV wc (fun b=>pb<b) (.slice fo fn fc) fr):=hf
  have HG:Hid (GoF w.heap.size w wc rb e 0 0 res ((fun t bg fr r4=>(Par.beginD e bg r4).bind fun bg r5=>(Par.forD e fr r5).bind fun fr r6=>(Par.block e 12 r6).bind fun y r7=>.ok (⟨p,s,q,t,bg,fr,y⟩:Prc) r7) t bg fr) rr vv):=hg
  have hlw:pb<wc.heap.size:=lt_of_block hs
  clear hn hs htn hq hl hb hf hg
  have HMY:=rMay_any ⟨#[98,101,103,105,110]⟩ (by decide) HG.out.rd
  clear hcut
  go_wp2_with fail
  refine HMY.mono ?_
  rintro x w6 ⟨rfl,hq6,v6,hrd6⟩
  have hk:Keeps (fun b=>pb<b) wc w6:=Keeps.of_grown hq6 fun b hb=>by simp;omega
  have HN2:Hid (w6.heap[w.heap.size]? =some (.cells #[.int .i64 0,.string ⟨#[]⟩,.slice none 0 0,.string ⟨#[]⟩,.int .i64 0,.slice none 0 0,.slice none 0 0,.slice none 0 0,.slice none 0 0] 88 (0,0))):=go_blk hq6 HN.out (by omega)
  have HS2:Hid (w6.heap[pb]? =some (.cells #[.int .i64 p,.string s,.slice po pn pc,.string t.name,.int .i64 t.type,.slice lo ln lc,.slice bo bn bc,.slice fo fn fc,.slice none 0 0] 88 (0,0))):=go_blk hq6 HS.out (by omega)
  have HQ2:Hid (RwV PmIs w6 (fun b=>pb<b) 3 (.slice po pn pc) q):=rwM_keeps HQ.out hk
  have HL2:Hid (LabV w6 (fun b=>pb<b) (.slice lo ln lc) t.lab):=HL.out.keeps hk
  have HB2:Hid (LabV w6 (fun b=>pb<b) (.slice bo bn bc) bg):=HB.out.keeps hk
  have HF2:Hid (StrsV w6 (fun b=>pb<b) (.slice fo fn fc) fr):=HF.out.keeps hk
  have HR2:Hid (Fr w.heap.size rb w w6):=HG.out.fr.trans (Fr.of_grown hq6 (by omega))
  have hlw2:pb<w6.heap.size:=lt_of_block HS2.out
  clear hk HN HS HQ HL HB HF hlw
  have HRD:Hid (∀i,isT (⟨#[98,101,103,105,110]⟩:ByteArray).data.toList rr=i→Rd w6 rb e 0 0 (if i=true then rr.tail else rr) v6):=by intro i hi;rw[←hi];exact hrd6
  have HEQ:Hid (res=(fun t bg fr r4=>(Par.beginD e bg r4).bind fun bg r5=>(Par.forD e fr r5).bind fun fr r6=>(Par.block e 12 r6).bind fun y r7=>.ok (⟨p,s,q,t,bg,fr,y⟩:Prc) r7) t bg fr rr):=HG.out.eq
  obtain⟨i1,hi1⟩:∃i1,isT (⟨#[98,101,103,105,110]⟩:ByteArray).data.toList rr=i1:=⟨_,rfl⟩
  rw[hi1]
  have HI:Hid (isT (⟨#[98,101,103,105,110]⟩:ByteArray).data.toList rr=i1):=hi1
  clear hq6 HMY HG hi1 hrd6
  go_upto_if 20 with fail
  go_cut [] (fun wc=>Hid (PcS w wc rb e pb res p s q (fun t bg fr r5=>(Par.forD e fr r5).bind fun fr r6=>(Par.block e 12 r6).bind fun y r7=>.ok (⟨p,s,q,t,bg,fr,y⟩:Prc) r7)))
  case first=>
   cases i1 with
   | true=>
    have HGt:Hid (GoF w.heap.size w w6 rb e 0 0 res (fun r=>(Par.labelR e r).bind fun bg r4=>(fun t bg fr r5=>(Par.forD e fr r5).bind fun fr r6=>(Par.block e 12 r6).bind fun y r7=>.ok (⟨p,s,q,t,bg,fr,y⟩:Prc) r7) t bg fr r4) rr.tail v6):=by
     refine⟨HR2.out,HRD.out true HI.out,?_,hlt⟩
     rw[HEQ.out]
     have h9:Par.beginD e bg rr=Par.labelR e rr.tail:=by unfold Par.beginD;exact if_pos HI.out
     simp only[h9]
    go_wp2_with fail
    refine(labelC HGt.out.rd).mono ?_
    intro x w7 hp
    rcases goF_of (P:=Par.labelR e) HGt.out (by omega) hp with⟨bg2,r7,u,v7,rfl,⟨z2,m2,d2,rfl,hlab⟩,hq7,hg7⟩|⟨hgr,c,q',hr,rfl,r,v',hrd⟩
    rotate_left
    ·exact⟨rfl,hgr.grown,.inr ⟨c,q',hr,rfl,r,v',hrd⟩⟩
    have hk7:Keeps (fun b=>pb<b) w6 w7:=Keeps.of_grown hq7 fun b hb=>by simp;omega
    have hn7:w7.heap[w.heap.size]? =some (.cells #[.int .i64 0,.string ⟨#[]⟩,.slice none 0 0,.string ⟨#[]⟩,.int .i64 0,.slice none 0 0,.slice none 0 0,.slice none 0 0,.slice none 0 0] 88 (0,0)):=go_blk hq7 HN2.out (by omega)
    have hs7:w7.heap[pb]? =some (.cells #[.int .i64 p,.string s,.slice po pn pc,.string t.name,.int .i64 t.type,.slice lo ln lc,.slice bo bn bc,.slice fo fn fc,.slice none 0 0] 88 (0,0)):=go_blk hq7 HS2.out (by omega)
    obtain⟨⟨a0,a1,a2,a3,a4,a5,a6,a7,a8⟩,hz⟩:=blk9 hs7
    have hz6:=hz 6
    have l7:pb<w7.heap.size:=lt_of_block hs7
    obtain⟨wf,hwf⟩:∃wf,wf=(w7).setCell ⟨pb,6,none⟩ (.slice z2 m2 d2):=⟨_,rfl⟩
    have hbf:Below pb w7 wf:=by
     rw[hwf]
     iterate 1 refine Below.setCell ?_ (by simp) _
     exact Below.refl _ _
    have hkf:Keeps (fun b=>pb<b) w7 wf:=⟨hbf.size,fun b hb _=>by rw[hwf];iterate 1 rw[Below.heap_setCell _ _ _ _ (by show b≠pb;omega)]⟩
    have HPF:Hid (PcS w wf rb e pb res p s q (fun t bg fr r5=>(Par.forD e fr r5).bind fun fr r6=>(Par.block e 12 r6).bind fun y r7=>.ok (⟨p,s,q,t,bg,fr,y⟩:Prc) r7)):=by
     refine⟨t,bg2,fr,po,pn,pc,lo,ln,lc,z2,m2,d2,fo,fn,fc,r7,v7,(hbf.block _ (by omega)).trans hn7,?_,HT.out,rwM_keeps HQ2.out (hk7.trans hkf),HL2.out.keeps (hk7.trans hkf),(LabV.mono hlab fun b hb _=>by omega).keeps hkf,HF2.out.keeps (hk7.trans hkf),hg7.later (hbf.mono (by omega))⟩
     rw[hwf];simp[World.setCell,Array.getElem?_modify,hs7]
    have HWF:Hid (wf=(w7).setCell ⟨pb,6,none⟩ (.slice z2 m2 d2)):=hwf
    clear hp hq7 hg7 hn7 hs7 hz hbf hkf hk7 hwf hlab
    go_wp2
    go_meet
    case rel=>rw[←HWF.out];exact HPF.out
   | false=>
    have HGf:Hid (GoF w.heap.size w w6 rb e 0 0 res ((fun t bg fr r5=>(Par.forD e fr r5).bind fun fr r6=>(Par.block e 12 r6).bind fun y r7=>.ok (⟨p,s,q,t,bg,fr,y⟩:Prc) r7) t bg fr) rr v6):=by
     refine⟨HR2.out,HRD.out false HI.out,?_,hlt⟩
     rw[HEQ.out]
     have h9:Par.beginD e bg rr=.ok bg rr:=by unfold Par.beginD;exact if_neg (by rw[show Par.wBegin=(⟨#[98,101,103,105,110]⟩:ByteArray).data.toList from rfl,HI.out];simp)
     simp only[h9]
     rfl
    go_wp2
    go_meet
    case rel=>exact⟨t,bg,fr,po,pn,pc,lo,ln,lc,bo,bn,bc,fo,fn,fc,rr,v6,HN2.out,HS2.out,HT.out,HQ2.out,HL2.out,HB2.out,HF2.out,HGf.out⟩
  case rest=>
   obtain⟨t,bg,fr,po,pn,pc,lo,ln,lc,bo,bn,bc,fo,fn,fc,rr,vv,hn,hs,htn,hq,hl,hb,hf,hg⟩:=hcut.out
   have HN:Hid (wc.heap[w.heap.size]? =some (.cells #[.int .i64 0,.string ⟨#[]⟩,.slice none 0 0,.string ⟨#[]⟩,.int .i64 0,.slice none 0 0,.slice none 0 0,.slice none 0 0,.slice none 0 0] 88 (0,0))):=hn
   have HS:Hid (wc.heap[pb]? =some (.cells #[.int .i64 p,.string s,.slice po pn pc,.string t.name,.int .i64 t.type,.slice lo ln lc,.slice bo bn bc,.slice fo fn fc,.slice none 0 0] 88 (0,0))):=hs
   have HT:Hid (t.name.size≤maxLen):=htn
   have HQ:Hid (RwV PmIs wc (fun b=>pb<b) 3 (.slice po pn pc) q):=hq
   have HL:Hid (LabV wc (fun b=>pb<b) (.slice lo ln lc) t.lab):=hl
   have HB:Hid (LabV wc (fun b=>pb<b) (.slice bo bn bc) bg):=hb
   have HF:Hid (StrsV wc (fun b=>pb<b) (.slice fo fn fc) fr):=hf
   have HG:Hid (GoF w.heap.size w wc rb e 0 0 res ((fun t bg fr r5=>(Par.forD e fr r5).bind fun fr r6=>(Par.block e 12 r6).bind fun y r7=>.ok (⟨p,s,q,t,bg,fr,y⟩:Prc) r7) t bg fr) rr vv):=hg
   have hlw:pb<wc.heap.size:=lt_of_block hs
   clear hn hs htn hq hl hb hf hg
   have HMY:=rMay_any ⟨#[102,111,114]⟩ (by decide) HG.out.rd
   clear hcut
   go_wp2_with fail
   refine HMY.mono ?_
   rintro x w6 ⟨rfl,hq6,v6,hrd6⟩
   have hk:Keeps (fun b=>pb<b) wc w6:=Keeps.of_grown hq6 fun b hb=>by simp;omega
   have HN2:Hid (w6.heap[w.heap.size]? =some (.cells #[.int .i64 0,.string ⟨#[]⟩,.slice none 0 0,.string ⟨#[]⟩,.int .i64 0,.slice none 0 0,.slice none 0 0,.slice none 0 0,.slice none 0 0] 88 (0,0))):=go_blk hq6 HN.out (by omega)
   have HS2:Hid (w6.heap[pb]? =some (.cells #[.int .i64 p,.string s,.slice po pn pc,.string t.name,.int .i64 t.type,.slice lo ln lc,.slice bo bn bc,.slice fo fn fc,.slice none 0 0] 88 (0,0))):=go_blk hq6 HS.out (by omega)
   have HQ2:Hid (RwV PmIs w6 (fun b=>pb<b) 3 (.slice po pn pc) q):=rwM_keeps HQ.out hk
   have HL2:Hid (LabV w6 (fun b=>pb<b) (.slice lo ln lc) t.lab):=HL.out.keeps hk
   have HB2:Hid (LabV w6 (fun b=>pb<b) (.slice bo bn bc) bg):=HB.out.keeps hk
   have HF2:Hid (StrsV w6 (fun b=>pb<b) (.slice fo fn fc) fr):=HF.out.keeps hk
   have HR2:Hid (Fr w.heap.size rb w w6):=HG.out.fr.trans (Fr.of_grown hq6 (by omega))
   have hlw2:pb<w6.heap.size:=lt_of_block HS2.out
   clear hk HN HS HQ HL HB HF hlw
   have HRD:Hid (∀i,isT (⟨#[102,111,114]⟩:ByteArray).data.toList rr=i→Rd w6 rb e 0 0 (if i=true then rr.tail else rr) v6):=by intro i hi;rw[←hi];exact hrd6
   have HEQ:Hid (res=(fun t bg fr r5=>(Par.forD e fr r5).bind fun fr r6=>(Par.block e 12 r6).bind fun y r7=>.ok (⟨p,s,q,t,bg,fr,y⟩:Prc) r7) t bg fr rr):=HG.out.eq
   obtain⟨i1,hi1⟩:∃i1,isT (⟨#[102,111,114]⟩:ByteArray).data.toList rr=i1:=⟨_,rfl⟩
   rw[hi1]
   have HI:Hid (isT (⟨#[102,111,114]⟩:ByteArray).data.toList rr=i1):=hi1
   clear hq6 HMY HG hi1 hrd6
   go_upto_if 25 with fail
   go_cut [] (fun wc=>Hid (PcS w wc rb e pb res p s q (fun t bg fr r6=>(Par.block e 12 r6).bind fun y r7=>.ok (⟨p,s,q,t,bg,fr,y⟩:Prc) r7)))
   case first=>
    cases i1 with
    | true=>
     have HGt:Hid (GoF w.heap.size w w6 rb e 0 0 res (fun r=>(Par.listR e [44] 6 (Par.nameR e) r).bind fun fr r4=>(fun t bg fr r6=>(Par.block e 12 r6).bind fun y r7=>.ok (⟨p,s,q,t,bg,fr,y⟩:Prc) r7) t bg fr r4) rr.tail v6):=by
      refine⟨HR2.out,HRD.out true HI.out,?_,hlt⟩
      rw[HEQ.out]
      have h9:Par.forD e fr rr=Par.listR e [44] 6 (Par.nameR e) rr.tail:=by unfold Par.forD;exact if_pos HI.out
      simp only[h9]
     go_wp2_with fail
     refine(listS HGt.out.rd ⟨#[44]⟩ (by decide) 6 (by omega) (by omega) 60 #[.pointer (some ⟨rb,0,none⟩)] #[] (enters_of Tryz.func60 (by kernel_rfl) rfl) (Par.nameR e) (fun w' ts' v' _ hr=>nameS hr)).mono ?_
     intro x w7 hp
     rcases goF_of (P:=Par.listR e [44] 6 (Par.nameR e)) HGt.out (by omega) hp with⟨fr2,r7,u,v7,rfl,ho,hq7,hg7⟩|⟨hgr,c,q',hr,rfl,r,v',hrd⟩
     rotate_left
     ·exact⟨rfl,hgr.grown,.inr ⟨c,q',hr,rfl,r,v',hrd⟩⟩
     obtain⟨z2,d2,rfl⟩:=ho.slice
     obtain⟨m2,hm2⟩:∃m2,fr2.length=m2:=⟨_,rfl⟩
     have hstr:=ho.strs
     rw[hm2] at hstr⊢
     clear ho hm2
     have hk7:Keeps (fun b=>pb<b) w6 w7:=Keeps.of_grown hq7 fun b hb=>by simp;omega
     have hn7:w7.heap[w.heap.size]? =some (.cells #[.int .i64 0,.string ⟨#[]⟩,.slice none 0 0,.string ⟨#[]⟩,.int .i64 0,.slice none 0 0,.slice none 0 0,.slice none 0 0,.slice none 0 0] 88 (0,0)):=go_blk hq7 HN2.out (by omega)
     have hs7:w7.heap[pb]? =some (.cells #[.int .i64 p,.string s,.slice po pn pc,.string t.name,.int .i64 t.type,.slice lo ln lc,.slice bo bn bc,.slice fo fn fc,.slice none 0 0] 88 (0,0)):=go_blk hq7 HS2.out (by omega)
     obtain⟨⟨a0,a1,a2,a3,a4,a5,a6,a7,a8⟩,hz⟩:=blk9 hs7
     have hz7:=hz 7
     have l7:pb<w7.heap.size:=lt_of_block hs7
     obtain⟨wf,hwf⟩:∃wf,wf=(w7).setCell ⟨pb,7,none⟩ (.slice z2 m2 d2):=⟨_,rfl⟩
     have hbf:Below pb w7 wf:=by
      rw[hwf]
      iterate 1 refine Below.setCell ?_ (by simp) _
      exact Below.refl _ _
     have hkf:Keeps (fun b=>pb<b) w7 wf:=⟨hbf.size,fun b hb _=>by rw[hwf];iterate 1 rw[Below.heap_setCell _ _ _ _ (by show b≠pb;omega)]⟩
     have HPF:Hid (PcS w wf rb e pb res p s q (fun t bg fr r6=>(Par.block e 12 r6).bind fun y r7=>.ok (⟨p,s,q,t,bg,fr,y⟩:Prc) r7)):=by
      refine⟨t,bg,fr2,po,pn,pc,lo,ln,lc,bo,bn,bc,z2,m2,d2,r7,v7,(hbf.block _ (by omega)).trans hn7,?_,HT.out,rwM_keeps HQ2.out (hk7.trans hkf),HL2.out.keeps (hk7.trans hkf),HB2.out.keeps (hk7.trans hkf),(StrsV.mono hstr fun b hb _=>by omega).keeps hkf,hg7.later (hbf.mono (by omega))⟩
      rw[hwf];simp[World.setCell,Array.getElem?_modify,hs7]
     have HWF:Hid (wf=(w7).setCell ⟨pb,7,none⟩ (.slice z2 m2 d2)):=hwf
     clear hp hq7 hg7 hn7 hs7 hz hbf hkf hk7 hwf hstr
     go_wp2
     go_meet
     case rel=>rw[←HWF.out];exact HPF.out
    | false=>
     have HGf:Hid (GoF w.heap.size w w6 rb e 0 0 res ((fun t bg fr r6=>(Par.block e 12 r6).bind fun y r7=>.ok (⟨p,s,q,t,bg,fr,y⟩:Prc) r7) t bg fr) rr v6):=by
      refine⟨HR2.out,HRD.out false HI.out,?_,hlt⟩
      rw[HEQ.out]
      have h9:Par.forD e fr rr=.ok fr rr:=by unfold Par.forD;exact if_neg (by rw[show Par.wFor=(⟨#[102,111,114]⟩:ByteArray).data.toList from rfl,HI.out];simp)
      simp only[h9]
      rfl
     go_wp2
     go_meet
     case rel=>exact⟨t,bg,fr,po,pn,pc,lo,ln,lc,bo,bn,bc,fo,fn,fc,rr,v6,HN2.out,HS2.out,HT.out,HQ2.out,HL2.out,HB2.out,HF2.out,HGf.out⟩
   case rest=>
    obtain⟨t,bg,fr,po,pn,pc,lo,ln,lc,bo,bn,bc,fo,fn,fc,rr,vv,hn,hs,htn,hq,hl,hb,hf,hg⟩:=hcut.out
    have HN:Hid (wc.heap[w.heap.size]? =some (.cells #[.int .i64 0,.string ⟨#[]⟩,.slice none 0 0,.string ⟨#[]⟩,.int .i64 0,.slice none 0 0,.slice none 0 0,.slice none 0 0,.slice none 0 0] 88 (0,0))):=hn
    have HS:Hid (wc.heap[pb]? =some (.cells #[.int .i64 p,.string s,.slice po pn pc,.string t.name,.int .i64 t.type,.slice lo ln lc,.slice bo bn bc,.slice fo fn fc,.slice none 0 0] 88 (0,0))):=hs
    have HT:Hid (t.name.size≤maxLen):=htn
    have HQ:Hid (RwV PmIs wc (fun b=>pb<b) 3 (.slice po pn pc) q):=hq
    have HL:Hid (LabV wc (fun b=>pb<b) (.slice lo ln lc) t.lab):=hl
    have HB:Hid (LabV wc (fun b=>pb<b) (.slice bo bn bc) bg):=hb
    have HF:Hid (StrsV wc (fun b=>pb<b) (.slice fo fn fc) fr):=hf
    have HG:Hid (GoF w.heap.size w wc rb e 0 0 res ((fun t bg fr r6=>(Par.block e 12 r6).bind fun y r7=>.ok (⟨p,s,q,t,bg,fr,y⟩:Prc) r7) t bg fr) rr vv):=hg
    have hlw:pb<wc.heap.size:=lt_of_block hs
    clear hn hs htn hq hl hb hf hg
    have HBC:=HBK.out _ _ _ HG.out.rd
    clear hcut
    go_wp2_with fail
    refine HBC.mono ?_
    intro x w7 hp
    rcases goF_of (P:=Par.block e 12) HG.out (by omega) hp with⟨y,r7,u,v7,rfl,⟨yo,yn,yc,rfl,hrw⟩,hq7,hg7⟩|⟨hgr,c,q',hr,rfl,r,v',hrd⟩
    rotate_left
    ·exact⟨rfl,hgr.grown,.inr ⟨c,q',hr,rfl,r,v',hrd⟩⟩
    have hk7:Keeps (fun b=>pb<b) wc w7:=Keeps.of_grown hq7 fun b hb=>by simp;omega
    have hn7:w7.heap[w.heap.size]? =some (.cells #[.int .i64 0,.string ⟨#[]⟩,.slice none 0 0,.string ⟨#[]⟩,.int .i64 0,.slice none 0 0,.slice none 0 0,.slice none 0 0,.slice none 0 0] 88 (0,0)):=go_blk hq7 HN.out (by omega)
    have hs7:w7.heap[pb]? =some (.cells #[.int .i64 p,.string s,.slice po pn pc,.string t.name,.int .i64 t.type,.slice lo ln lc,.slice bo bn bc,.slice fo fn fc,.slice none 0 0] 88 (0,0)):=go_blk hq7 HS.out (by omega)
    obtain⟨⟨a0,a1,a2,a3,a4,a5,a6,a7,a8⟩,hz⟩:=blk9 hs7
    have hz8:=hz 8
    have l7:pb<w7.heap.size:=lt_of_block hs7
    obtain⟨w8,hw8⟩:∃w8,w8=w7.setCell ⟨pb,8,none⟩ (.slice yo yn yc):=⟨_,rfl⟩
    have hb8:Below pb w7 w8:=by rw[hw8];exact(Below.refl _ _).setCell (by simp) _
    have hk8:Keeps (fun b=>pb<b) w7 w8:=⟨hb8.size,fun b hb _=>by rw[hw8,Below.heap_setCell _ _ _ _ (by show b≠pb;omega)]⟩
    have hs8:w8.heap[pb]? =some (.cells #[.int .i64 p,.string s,.slice po pn pc,.string t.name,.int .i64 t.type,.slice lo ln lc,.slice bo bn bc,.slice fo fn fc,.slice yo yn yc] 88 (0,0)):=by rw[hw8];simp[World.setCell,Array.getElem?_modify,hs7]
    have hn8:w8.heap[w.heap.size]? =some (.cells #[.int .i64 0,.string ⟨#[]⟩,.slice none 0 0,.string ⟨#[]⟩,.int .i64 0,.slice none 0 0,.slice none 0 0,.slice none 0 0,.slice none 0 0] 88 (0,0)):=(hb8.block _ (by omega)).trans hn7
    have HPC:Hid (PcIs w8 (fun b=>pb<b) (⟨p,s,q,t,bg,fr,y⟩:Prc) [.int .i64 p,.string s,.slice po pn pc,.string t.name,.int .i64 t.type,.slice lo ln lc,.slice bo bn bc,.slice fo fn fc,.slice yo yn yc]):=⟨_,_,_,_,_,rfl,HSZ.out,HT.out,rwM_keeps HQ.out (hk7.trans hk8),HL.out.keeps (hk7.trans hk8),HB.out.keeps (hk7.trans hk8),HF.out.keeps (hk7.trans hk8),rwT_keeps (rwT_mono hrw fun b hb _=>by omega) hk8⟩
    have HG8:Hid (GoF w.heap.size w w8 rb e 0 0 res (fun r=>.ok (⟨p,s,q,t,bg,fr,y⟩:Prc) r) r7 v7):=hg7.later (hb8.mono (by omega))
    have HN8:Hid (w8.heap[w.heap.size]? =some (.cells #[.int .i64 0,.string ⟨#[]⟩,.slice none 0 0,.string ⟨#[]⟩,.int .i64 0,.slice none 0 0,.slice none 0 0,.slice none 0 0,.slice none 0 0] 88 (0,0))):=hn8
    have HS8:Hid (w8.heap[pb]? =some (.cells #[.int .i64 p,.string s,.slice po pn pc,.string t.name,.int .i64 t.type,.slice lo ln lc,.slice bo bn bc,.slice fo fn fc,.slice yo yn yc] 88 (0,0))):=hs8
    clear hp hq7 hg7 hn7 hs7 hz hb8 hk8 hk7 hrw hs8 hn8 HBC HN HS HQ HL HB HF HG hlw
    go_upto_region 10 with fail
    rw[←hw8]
    clear hw8 a0 a1 a2 a3 a4 a5 a6 a7 a8 hz8 l7
    obtain⟨⟨b0,b1,b2,b3,b4,b5,b6,b7,b8⟩,hzn⟩:=blk9 HN8.out
    obtain⟨⟨x0,x1,x2,x3,x4,x5,x6,x7,x8⟩,_⟩:=blk9 HS8.out
    have y0:=hzn 0
    have y1:=hzn 1
    have y2:=hzn 2
    have y3:=hzn 3
    have y4:=hzn 4
    have y5:=hzn 5
    have y6:=hzn 6
    have y7:=hzn 7
    have y8:=hzn 8
    have l9:=lt_of_block HN8.out
    have l8:=lt_of_block HS8.out
    clear hzn
    go_wp2
    obtain⟨wf,hwf⟩:∃wf,wf=(((((((((w8).setCell ⟨w.heap.size,0,none⟩ (.int .i64 p)).setCell ⟨w.heap.size,1,none⟩ (.string s)).setCell ⟨w.heap.size,2,none⟩ (.slice po pn pc)).setCell ⟨w.heap.size,3,none⟩ (.string t.name)).setCell ⟨w.heap.size,4,none⟩ (.int .i64 t.type)).setCell ⟨w.heap.size,5,none⟩ (.slice lo ln lc)).setCell ⟨w.heap.size,6,none⟩ (.slice bo bn bc)).setCell ⟨w.heap.size,7,none⟩ (.slice fo fn fc)).setCell ⟨w.heap.size,8,none⟩ (.slice yo yn yc):=⟨_,rfl⟩
    have hbf:Below w.heap.size w8 wf:=by
     rw[hwf]
     iterate 9 refine Below.setCell ?_ (by simp) _
     exact Below.refl _ _
    have hkf:Keeps (fun b=>pb<b) w8 wf:=⟨hbf.size,fun b hb _=>by rw[hwf];iterate 9 rw[Below.heap_setCell _ _ _ _ (by show b≠w.heap.size;omega)]⟩
    have hnf:wf.heap[w.heap.size]? =some (.cells #[.int .i64 p,.string s,.slice po pn pc,.string t.name,.int .i64 t.type,.slice lo ln lc,.slice bo bn bc,.slice fo fn fc,.slice yo yn yc] 88 (0,0)):=by rw[hwf];simp[World.setCell,Array.getElem?_modify,HN8.out]
    rw[←hwf]
    exact pc_ret HG8.out hnf HPC.out hkf hbf (by omega) rfl
structure Lst {α:Type}(El:World→(Nat→Prop)→α→List Value→Prop)(w:World)(B ty sz:Nat)(X:Nat→Prop)(v:Value)(acc:List α):Prop where
 ex:∃css:List (List Value),w.ownsRow B ty sz v acc.length css.flatten∧css.length=acc.length∧∀i (h:i<acc.length) (h':i<css.length),El w (fun b=>X b∧some b≠v.ownBlock) acc[i] css[i]
 own:∀k,v.ownBlock=some k→X k
theorem Lst.nil {α:Type}(El:World→(Nat→Prop)→α→List Value→Prop)(w:World)(B ty sz:Nat)(X:Nat→Prop):Lst El w B ty sz X (.slice none 0 0) []:=
 ⟨⟨[],World.ownsRow_nil _ _ _ _,rfl,fun i hi=>by simp at hi⟩,fun k hk=>by simp[Value.ownBlock] at hk⟩
theorem Lst.step {α:Type}{El:World→(Nat→Prop)→α→List Value→Prop}{w w':World}{B ty sz:Nat}{X:Nat→Prop}{v:Value}{acc:List α}{o:Option Nat}(K:IsEl El sz)(h:Lst El w B ty sz X v acc)(hg:w.grownBy w' o)(ho:∀k,o=some k→¬X k):Lst El w' B ty sz X v acc:=by
 obtain⟨css,h1,h2,h3⟩:=h.ex
 refine⟨⟨css,h1.kept hg ?_,h2,fun i hi hi'=>K.keeps (h3 i hi hi') (Keeps.of_grown hg fun b hb e=>ho b e.symm hb.1)⟩,h.own⟩
 cases hv:v.ownBlock with
 | none=>exact .inl rfl
 | some k=>exact .inr fun e=>ho k e.symm (h.own k hv)
theorem Lst.mono {α:Type}{El:World→(Nat→Prop)→α→List Value→Prop}{w:World}{B ty sz:Nat}{X X':Nat→Prop}{v:Value}{acc:List α}(K:IsEl El sz)(h:Lst El w B ty sz X v acc)(k:∀b,X b→b<w.heap.size→X' b):Lst El w B ty sz X' v acc:=by
 obtain⟨css,h1,h2,h3⟩:=h.ex
 exact⟨⟨css,h1,h2,fun i hi hi'=>K.mono (h3 i hi hi') fun b hb hl=>⟨k b hb.1 hl,hb.2⟩⟩,fun j hj=>k j (h.own j hj) (h1.lt j hj).2⟩
theorem Lst.ownL {α:Type}{El:World→(Nat→Prop)→α→List Value→Prop}{w:World}{B ty sz:Nat}{X:Nat→Prop}{v:Value}{acc:List α}(K:IsEl El sz)(h:Lst El w B ty sz X v acc)(k:∀b,X b→B≤b):OwnL El w B ty sz v acc:=by
 obtain⟨css,h1,h2,h3⟩:=h.ex
 exact⟨css,h1,h2,fun i hi hi'=>K.mono (h3 i hi hi') fun b hb _=>⟨k b hb.1,hb.2⟩⟩
theorem Lst.add {α:Type}{El:World→(Nat→Prop)→α→List Value→Prop}{w w1 w':World}{B ty sz rb:Nat}{X:Nat→Prop}{lv u:Value}{acc:List α}{a:α}{xs:List Value}{css:List (List Value)}(K:IsEl El sz)(hown:∀k,lv.ownBlock=some k→X k)(h2:css.length=acc.length)(h3:∀i (h:i<acc.length) (h':i<css.length),El w (fun b=>X b∧some b≠lv.ownBlock) acc[i] css[i])(hX:∀b,X b→b<w.heap.size)(hrb:¬X rb)
 (hg:w.grownBy w1 (some rb)) (hx:El w1 (fun b=>w.heap.size≤b) a xs) (hg2:w1.grownBy w' lv.ownBlock) (ho:w'.ownsRow B ty sz u (acc.length+1) (css.flatten++xs)) (hat:u.ownBlock=lv.ownBlock∨u.ownBlock=some w1.heap.size):Lst El w' B ty sz (fun b=>X b∨w.heap.size≤b) u (acc++[a]):=by
 have hz:=hg.size
 refine⟨⟨css++[xs],by simpa using ho,by simp[h2],fun i hi hi'=> ?_⟩,fun k hk=> ?_⟩
 ·by_cases hlt:i<acc.length
  ·rw[List.getElem_append_left hlt,List.getElem_append_left (by omega)]
   have e1:=K.keeps (h3 i hlt (by omega)) (Keeps.of_grown hg fun b hb e=>hrb (by cases e;exact hb.1))
   have e2:=K.keeps e1 (Keeps.of_grown hg2 fun b hb=>hb.2)
   refine K.mono e2 fun b hb _=>⟨.inl hb.1,?_⟩
   rcases hat with hat | hat
   ·rw[hat];exact hb.2
   ·rw[hat]
    have:=hX b hb.1
    simp;omega
  ·have hi2:i=acc.length:=by simp at hi;omega
   subst hi2
   have e1:El w1 (fun b=>w.heap.size≤b∧b<w1.heap.size) a xs:=K.mono hx fun b hb hl=>⟨hb,hl⟩
   have e2:=K.keeps e1 (Keeps.of_grown hg2 fun b hb e=>by have:=hX b (hown b e.symm);omega)
   have e3:El w' (fun b=>(X b∨w.heap.size≤b)∧some b≠u.ownBlock) a xs:=K.mono e2 fun b hb _=>⟨.inr hb.1,fun e=>by
    rcases hat with hat | hat
    ·have:=hX b (hown b (by rw[←hat];exact e.symm));omega
    ·rw[hat] at e;cases e;omega⟩
   rw[List.getElem_append_right (Nat.le_refl _),List.getElem_append_right (by omega)]
   simpa[h2] using e3
 ·rcases hat with hat | hat
  ·exact .inl (hown k (by rw[←hat];exact hk))
  ·rw[hat] at hk;cases hk;exact .inr hz
end Go.Proofs.YtepkhlpjgnckkaaGreatDoor
