/- parse's reader of programs: a step from where it stands; chief, acts, kind, param, channel. And more of the same. -/
import Derived.Test.YtepkhlpjgnckkaaGreatDoorZC0
import Derived.Test.YtepkhlpjgnckkaaGreatDoorZB5
namespace Go.Proofs.YtepkhlpjgnckkaaGreatDoor
set_option maxRecDepth 100000
set_option maxHeartbeats 8000000
open Go.RowKit
open Par (Tok Po Tr nx atP isT ba Res Stm Prm Chn Prc Prg)
structure GoP {α:Type}(w wr:World)(rb e:Nat)(bl pr:Int)(res:Res α)(K:List Tok→Res α)(ts:List Tok)(v:Value):Prop where
 gr:w.grownBy wr (some rb)
 rd:Rd wr rb e bl pr ts v
 eq:res=K ts
 lo:rb<w.heap.size
theorem GoP.later {α:Type}{w wr w':World}{rb e:Nat}{bl pr:Int}{res:Res α}{K:List Tok→Res α}{ts:List Tok}{v:Value}(h:GoP w wr rb e bl pr res K ts v)(hb:Below wr.heap.size wr w'):GoP w w' rb e bl pr res K ts v:=
 ⟨grown_below h.gr hb,h.rd.keeps hb h.rd.lt,h.eq,h.lo⟩
theorem go_of {α β:Type}{w wr w':World}{rb e:Nat}{bl pr:Int}{res:Res β}{P:List Tok→Res α}{F:α→List Tok→Res β}{ts:List Tok}{v:Value}{V:World→α→Value→Prop}{x:Ending}(h:GoP w wr rb e bl pr res (fun ts=>(P ts).bind F) ts v)(hp:Post wr rb e bl pr (P ts) V x w'):
 (∃a r u v',x=.returned u∧V w' a u∧wr.grownBy w' (some rb)∧GoP w w' rb e bl pr res (F a) r v')∨(w.grownBy w' (some rb)∧∃c q,res=.no c q∧x=goneE c q∧∃r v',Rd w' rb e bl pr r v'):=by
 obtain⟨hg,⟨a,r,hr,u,v',hx,hV,hrd⟩|⟨c,q,hr,hx,r,v',hrd⟩⟩:=hp
 ·exact .inl ⟨a,r,u,v',hx,hV,hg,grown_trans h.gr hg,hrd,by rw[h.eq,hr];rfl,h.lo⟩
 ·exact .inr ⟨grown_trans h.gr hg,c,q,by rw[h.eq,hr];rfl,hx,r,v',hrd⟩
theorem go_new {α:Type}{w w0:World}{rb e:Nat}{bl pr:Int}{K:List Tok→Res α}{ts:List Tok}{v:Value}(h:Rd w rb e bl pr ts v)(hb:Below w.heap.size w w0):GoP w w0 rb e bl pr (K ts) K ts v:=
 ⟨grown_of_below _ hb,h.keeps hb h.lt,rfl,h.lt⟩
theorem go_blk {w w':World}{rb b:Nat}{o:Obj}(hg:w.grownBy w' (some rb))(hb:w.heap[b]? =some o)(hne:b≠rb):w'.heap[b]? =some o:=(hg.block _ (lt_of_block hb) (by simp;exact hne)).trans hb
theorem fin_grown {w wr wf:World}{rb:Nat}(h:w.grownBy wr (some rb))(hb:Below w.heap.size wr wf):w.grownBy wf (some rb):=((Fr.of_grown h (Nat.le_refl _)).trans (Fr.of_below hb)).grown
theorem chiefC {w:World}{rb e:Nat}{bl pr:Int}{ts:List Tok}{v:Value}(h:Rd w rb e bl pr ts v):
 Calls Tryz.prog 39 #[.pointer (some ⟨rb,0,none⟩)] w (Post w rb e bl pr (Par.chiefR e ts) (VS w.heap.size)):=by
 obtain⟨res,hres⟩:∃res,res=Par.chiefR e ts:=⟨_,rfl⟩
 rw[←hres]
 have HG:Hid (GoP w w rb e bl pr res (fun ts=>(Par.must e Par.wChief ts).bind fun _ r1=>(Par.nameR e r1).bind fun s r2=>(Par.must e [59] r2).bind fun _ r3=>.ok s r3) ts v):=by rw[hres];exact go_new (K:=Par.chiefR e) h (Below.refl _ _)
 clear h hres
 go_enter Tryz.func39,Tryz.ntmps39
 go_wp2_with fail
 refine(rMust_any ⟨#[99,104,105,101,102]⟩ (by decide) HG.out.rd).mono ?_
 intro x w1 hp
 rcases go_of (P:=Par.must e Par.wChief) HG.out hp with⟨a,r,u,v',rfl,rfl,_,hg1⟩|⟨hgr,c,q,hr,rfl,r,v',hrd⟩
 rotate_left
 ·exact⟨rfl,hgr,.inr ⟨c,q,hr,rfl,r,v',hrd⟩⟩
 have HG1:Hid _:=hg1
 clear hp hg1
 go_wp2_with fail
 refine(rName_any HG1.out.rd).mono ?_
 intro x w2 hp
 rcases go_of HG1.out hp with⟨s,r2,u,v2,rfl,⟨rfl,hsz⟩,_,hg2⟩|⟨hgr,c,q,hr,rfl,r,v',hrd⟩
 rotate_left
 ·exact⟨rfl,hgr,.inr ⟨c,q,hr,rfl,r,v',hrd⟩⟩
 have HG2:Hid _:=hg2
 clear hp hg2
 go_wp2_with fail
 refine(rMust_any ⟨#[59]⟩ (by decide) HG2.out.rd).mono ?_
 intro x w3 hp
 rcases go_of (P:=Par.must e [59]) HG2.out hp with⟨a3,r3,u,v3,rfl,rfl,_,hg3⟩|⟨hgr,c,q,hr,rfl,r,v',hrd⟩
 rotate_left
 ·exact⟨rfl,hgr,.inr ⟨c,q,hr,rfl,r,v',hrd⟩⟩
 have HG3:Hid _:=hg3
 have HSZ:Hid (s.size≤maxLen):=hsz
 clear hp hg3 hsz
 go_wp2
 go_ret
 exact⟨HG3.out.gr,.inl ⟨s,_,HG3.out.eq,_,_,rfl,⟨s,rfl,rfl,HSZ.out⟩,HG3.out.rd⟩⟩
theorem actsC {w:World}{rb e:Nat}{bl pr:Int}{ts:List Tok}{v:Value}(h:Rd w rb e bl pr ts v):
 Calls Tryz.prog 41 #[.pointer (some ⟨rb,0,none⟩)] w (Post w rb e bl pr (Par.actsR e ts) (VA w.heap.size)):=by
 obtain⟨res,hres⟩:∃res,res=Par.actsR e ts:=⟨_,rfl⟩
 rw[←hres]
 have hlt:=h.lt
 obtain⟨w0,hw0⟩:∃w0,w0=w.alloc (.cells #[.string ⟨#[]⟩,.string ⟨#[]⟩] 111):=⟨_,rfl⟩
 have hbel:Below w.heap.size w w0:=by rw[hw0];exact(Below.refl _ _).alloc (Nat.le_refl _) _
 have hn0:w0.heap[w.heap.size]? =some (.cells #[.string ⟨#[]⟩,.string ⟨#[]⟩] 111 (0,0)):=by rw[hw0];exact heap_at_alloc _ _ _ rfl
 have HG:Hid (GoP w w0 rb e bl pr res (fun ts=>(Par.must e Par.wActs ts).bind fun _ r1=>(Par.nameR e r1).bind fun s r2=>(Par.nameR e r2).bind fun t r3=>(Par.must e [59] r3).bind fun _ r4=>.ok (s,t) r4) ts v):=by rw[hres];exact go_new (K:=Par.actsR e) h hbel
 have HN:Hid (w0.heap[w.heap.size]? =some (.cells #[.string ⟨#[]⟩,.string ⟨#[]⟩] 111 (0,0))):=hn0
 clear h hres hbel hn0
 go_enter Tryz.func41,Tryz.ntmps41
 go_wp2_with fail
 rw[←hw0]
 clear hw0
 refine(rMust_any ⟨#[97,99,116,115]⟩ (by decide) HG.out.rd).mono ?_
 intro x w1 hp
 rcases go_of (P:=Par.must e Par.wActs) HG.out hp with⟨a,r,u,v',rfl,rfl,hq1,hg1⟩|⟨hgr,c,q,hr,rfl,r,v',hrd⟩
 rotate_left
 ·exact⟨rfl,hgr,.inr ⟨c,q,hr,rfl,r,v',hrd⟩⟩
 have HG1:Hid _:=hg1
 have HN1:Hid (w1.heap[w.heap.size]? =some (.cells #[.string ⟨#[]⟩,.string ⟨#[]⟩] 111 (0,0))):=go_blk hq1 HN.out (by omega)
 clear hp hg1 hq1
 go_wp2_with fail
 refine(rName_any HG1.out.rd).mono ?_
 intro x w2 hp
 rcases go_of HG1.out hp with⟨s,r2,u,v2,rfl,⟨rfl,hsz⟩,hq2,hg2⟩|⟨hgr,c,q,hr,rfl,r,v',hrd⟩
 rotate_left
 ·exact⟨rfl,hgr,.inr ⟨c,q,hr,rfl,r,v',hrd⟩⟩
 have HG2:Hid _:=hg2
 have HSZ:Hid (s.size≤maxLen):=hsz
 have HN2:Hid (w2.heap[w.heap.size]? =some (.cells #[.string ⟨#[]⟩,.string ⟨#[]⟩] 111 (0,0))):=go_blk hq2 HN1.out (by omega)
 clear hp hg2 hq2 hsz
 go_wp2_with fail
 refine(rName_any HG2.out.rd).mono ?_
 intro x w3 hp
 rcases go_of HG2.out hp with⟨t,r3,u,v3,rfl,⟨rfl,htz⟩,hq3,hg3⟩|⟨hgr,c,q,hr,rfl,r,v',hrd⟩
 rotate_left
 ·exact⟨rfl,hgr,.inr ⟨c,q,hr,rfl,r,v',hrd⟩⟩
 have HTZ:Hid (t.size≤maxLen):=htz
 have hn3:w3.heap[w.heap.size]? =some (.cells #[.string ⟨#[]⟩,.string ⟨#[]⟩] 111 (0,0)):=go_blk hq3 HN2.out (by omega)
 obtain⟨w4,hw4⟩:∃w4,w4=w3.alloc (.cells #[.string s,.string t] 111):=⟨_,rfl⟩
 have hb4:Below w3.heap.size w3 w4:=by rw[hw4];exact(Below.refl _ _).alloc (Nat.le_refl _) _
 have HN4:Hid (w4.heap[w.heap.size]? =some (.cells #[.string ⟨#[]⟩,.string ⟨#[]⟩] 111 (0,0))):=(hb4.block _ (lt_of_block hn3)).trans hn3
 have HP4:Hid (w4.heap[w3.heap.size]? =some (.cells #[.string s,.string t] 111 (0,0))):=by show _=_;rw[hw4];exact heap_at_alloc _ _ _ rfl
 have HG4:Hid _:=hg3.later hb4
 have hls:w.heap.size<w3.heap.size:=lt_of_block hn3
 clear hp hg3 hq3 htz hn3 hb4
 go_wp2_with fail
 rw[←hw4]
 clear hw4
 refine(rMust_any ⟨#[59]⟩ (by decide) HG4.out.rd).mono ?_
 intro x w5 hp
 rcases go_of (P:=Par.must e [59]) HG4.out hp with⟨a5,r5,u,v5,rfl,rfl,hq5,hg5⟩|⟨hgr,c,q,hr,rfl,r,v',hrd⟩
 rotate_left
 ·exact⟨rfl,hgr,.inr ⟨c,q,hr,rfl,r,v',hrd⟩⟩
 have hn5:=go_blk hq5 HN4.out (by omega)
 have hp5:=go_blk hq5 HP4.out (by omega)
 have HN5:Hid (w5.heap[w.heap.size]? =some (.cells #[.string ⟨#[]⟩,.string ⟨#[]⟩] 111 (0,0))):=hn5
 have HG5:Hid _:=hg5
 obtain⟨⟨e0,e1⟩,g0,g1⟩:=blk2 hn5
 obtain⟨⟨i0,i1⟩,_⟩:=blk2 hp5
 have l5:=lt_of_block hn5
 have l6:=lt_of_block hp5
 clear hp hq5 hg5 hn5 hp5
 go_wp2
 obtain⟨wf,hwf⟩:∃wf,wf=(w5.setCell ⟨w.heap.size,0,none⟩ (.string s)).setCell ⟨w.heap.size,1,none⟩ (.string t):=⟨_,rfl⟩
 have hbf:Below w.heap.size w5 wf:=by rw[hwf];exact((Below.refl _ _).setCell (by simp) _).setCell (by simp) _
 have hnf:wf.heap[w.heap.size]? =some (.cells #[.string s,.string t] 111 (0,0)):=by rw[hwf];simp[World.setCell,Array.getElem?_modify,HN5.out]
 rw[←hwf]
 obtain⟨⟨k0,k1⟩,_⟩:=blk2 hnf
 refine bodyPost_ret (v:=.agg #[.string s,.string t]) (by simp[results,Tryz.results41,go_sem,k0,k1]) rfl ?_
 exact⟨fin_grown HG5.out.gr hbf,.inl ⟨(s,t),_,HG5.out.eq,_,_,rfl,⟨s,t,rfl,rfl,HSZ.out,HTZ.out⟩,HG5.out.rd.keeps hbf HG5.out.lo⟩⟩
theorem kindC {w:World}{rb e:Nat}{bl pr:Int}{ts:List Tok}{v:Value}(h:Rd w rb e bl pr ts v):
 Calls Tryz.prog 65 #[.pointer (some ⟨rb,0,none⟩)] w (Post w rb e bl pr ((Par.kindR e ts).bind fun k r=>.ok (⟨ba [],k.1,k.2⟩:Prm) r) (VM w.heap.size)):=by
 obtain⟨res,hres⟩:∃res,res=((Par.kindR e ts).bind fun k r=>.ok (⟨ba [],k.1,k.2⟩:Prm) r):=⟨_,rfl⟩
 rw[←hres]
 have hlt:=h.lt
 obtain⟨w0,hw0⟩:∃w0,w0=w.alloc (.cells #[.string ⟨#[]⟩,.int .i64 0,.slice none 0 0] 85):=⟨_,rfl⟩
 have hbel:Below w.heap.size w w0:=by rw[hw0];exact(Below.refl _ _).alloc (Nat.le_refl _) _
 have HN:Hid (w0.heap[w.heap.size]? =some (.cells #[.string ⟨#[]⟩,.int .i64 0,.slice none 0 0] 85 (0,0))):=by show _=_;rw[hw0];exact heap_at_alloc _ _ _ rfl
 have HG:Hid (GoP w w0 rb e bl pr res (fun ts=>(Par.must e [58] ts).bind fun _ r1=>(Par.typeR e r1).bind fun t r2=>(Par.labelR e r2).bind fun l r3=>.ok (⟨ba [],t,l⟩:Prm) r3) ts v):=by
  have h9:=go_new (K:=fun ts=>(Par.kindR e ts).bind fun k r=>.ok (⟨ba [],k.1,k.2⟩:Prm) r) h hbel
  refine⟨h9.gr,h9.rd,?_,h9.lo⟩
  rw[hres]
  unfold Par.kindR
  cases Par.must e [58] ts with
  | no c q=>rfl
  | ok a r=>
   show((Par.typeR e r).bind _).bind _=(Par.typeR e r).bind _
   cases Par.typeR e r with
   | no c q=>rfl
   | ok t r2=>
    show((Par.labelR e r2).bind _).bind _=(Par.labelR e r2).bind _
    cases Par.labelR e r2<;>rfl
 clear h hres hbel
 go_enter Tryz.func65,Tryz.ntmps65
 go_wp2_with fail
 rw[←hw0]
 clear hw0
 refine(rMust_any ⟨#[58]⟩ (by decide) HG.out.rd).mono ?_
 intro x w1 hp
 rcases go_of (P:=Par.must e [58]) HG.out hp with⟨a,r,u,v',rfl,rfl,hq1,hg1⟩|⟨hgr,c,q,hr,rfl,r,v',hrd⟩
 rotate_left
 ·exact⟨rfl,hgr,.inr ⟨c,q,hr,rfl,r,v',hrd⟩⟩
 have HG1:Hid (GoP w w1 rb e bl pr res (fun r1=>(Par.typeR e r1).bind fun t r2=>(Par.labelR e r2).bind fun l r3=>.ok (⟨ba [],t,l⟩:Prm) r3) r v'):=hg1
 have HN1:Hid (w1.heap[w.heap.size]? =some (.cells #[.string ⟨#[]⟩,.int .i64 0,.slice none 0 0] 85 (0,0))):=go_blk hq1 HN.out (by omega)
 clear hp hg1 hq1
 go_wp2_with fail
 refine(rMay_any ⟨#[105,110,116]⟩ (by decide) HG1.out.rd).mono ?_
 rintro x w2 ⟨rfl,hq2,v2,hrd2⟩
 have hn2:=go_blk hq2 HN1.out (by omega)
 have HN2:Hid (w2.heap[w.heap.size]? =some (.cells #[.string ⟨#[]⟩,.int .i64 0,.slice none 0 0] 85 (0,0))):=hn2
 have HQ2:Hid (w.grownBy w2 (some rb)):=grown_trans HG1.out.gr hq2
 clear hq2 hn2
 cases hi:isT (⟨#[105,110,116]⟩:ByteArray).data.toList r with
 | true=>
  rw[hi] at hrd2
  have HG2:Hid (GoP w w2 rb e bl pr res (fun r2=>(Par.labelR e r2).bind fun l r3=>.ok (⟨ba [],1,l⟩:Prm) r3) r.tail v2):=by
   refine⟨HQ2.out,hrd2,?_,HG1.out.lo⟩
   rw[HG1.out.eq]
   have h9:Par.typeR e r=.ok 1 r.tail:=by unfold Par.typeR;exact if_pos hi
   rw[h9];rfl
  clear hi hrd2
  go_wp2_with fail
  refine(labelC HG2.out.rd).mono ?_
  intro x w5 hp
  rcases go_of HG2.out hp with⟨l,r5,u,v5,rfl,⟨lo,ln,lc,rfl,hlab⟩,hq5,hg5⟩|⟨hgr,c,q,hr,rfl,r,v',hrd⟩
  rotate_left
  ·exact⟨rfl,hgr,.inr ⟨c,q,hr,rfl,r,v',hrd⟩⟩
  have hn5:=go_blk hq5 HN2.out (by omega)
  have HN5:Hid (w5.heap[w.heap.size]? =some (.cells #[.string ⟨#[]⟩,.int .i64 0,.slice none 0 0] 85 (0,0))):=hn5
  have HG5:Hid _:=hg5
  have hw2:w.heap.size<w2.heap.size:=lt_of_block HN2.out
  have HLB:Hid (LabV w5 (fun b=>w.heap.size+1≤b) (.slice lo ln lc) l):=hlab.mono fun b hb _=>by omega
  obtain⟨⟨e0,e1,e2⟩,g0,g1,g2⟩:=blk3 hn5
  have l5:=lt_of_block hn5
  clear hp hq5 hg5 hn5 hlab
  go_wp2
  obtain⟨wf,hwf⟩:∃wf,wf=((w5.setCell ⟨w.heap.size,0,none⟩ (.string ⟨#[]⟩)).setCell ⟨w.heap.size,1,none⟩ (.int .i64 1)).setCell ⟨w.heap.size,2,none⟩ (.slice lo ln lc):=⟨_,rfl⟩
  have hbf:Below w.heap.size w5 wf:=by rw[hwf];exact(((Below.refl _ _).setCell (by simp) _).setCell (by simp) _).setCell (by simp) _
  have hkf:∀k,k≠w.heap.size→wf.heap[k]? =w5.heap[k]? :=fun k hk=>by rw[hwf,Below.heap_setCell _ _ _ _ hk,Below.heap_setCell _ _ _ _ hk,Below.heap_setCell _ _ _ _ hk]
  have hnf:wf.heap[w.heap.size]? =some (.cells #[.string ⟨#[]⟩,.int .i64 1,.slice lo ln lc] 85 (0,0)):=by rw[hwf];simp[World.setCell,Array.getElem?_modify,HN5.out]
  rw[←hwf]
  obtain⟨⟨k0,k1,k2⟩,_⟩:=blk3 hnf
  refine bodyPost_ret (v:=.agg #[.string ⟨#[]⟩,.int .i64 1,.slice lo ln lc]) (by simp[results,Tryz.results65,go_sem,k0,k1,k2]) rfl ?_
  have hlf:=(HLB.out.keeps (w':=wf) ⟨hbf.size,fun b hb _=>hkf b (by omega)⟩).mono (S':=fun b=>w.heap.size≤b) fun b hb _=>by omega
  exact⟨fin_grown HG5.out.gr hbf,.inl ⟨_,_,HG5.out.eq,_,_,rfl,⟨_,_,_,_,_,rfl,_,rfl,(by show(ba []).size≤maxLen;decide),hlf⟩,HG5.out.rd.keeps hbf HG5.out.lo⟩⟩
 | false=>
  rw[hi] at hrd2
  have HGa:Hid (GoP w w2 rb e bl pr res (fun r1=>(Par.must e Par.wBool r1).bind fun _ r2=>(Par.labelR e r2).bind fun l r3=>.ok (⟨ba [],2,l⟩:Prm) r3) r v2):=by
   refine⟨HQ2.out,hrd2,?_,HG1.out.lo⟩
   rw[HG1.out.eq]
   have h9:Par.typeR e r=(Par.must e Par.wBool r).bind fun _ r=>.ok 2 r:=by unfold Par.typeR;exact if_neg (by rw[show Par.wInt=(⟨#[105,110,116]⟩:ByteArray).data.toList from rfl,hi];simp)
   rw[h9]
   cases Par.must e Par.wBool r<;>rfl
  clear hi hrd2
  go_wp2_with fail
  refine(rMust_any ⟨#[98,111,111,108]⟩ (by decide) HGa.out.rd).mono ?_
  intro x w3 hp
  rcases go_of (P:=Par.must e Par.wBool) HGa.out hp with⟨a3,r3,u,v3,rfl,rfl,hq3,hg3⟩|⟨hgr,c,q,hr,rfl,r,v',hrd⟩
  rotate_left
  ·exact⟨rfl,hgr,.inr ⟨c,q,hr,rfl,r,v',hrd⟩⟩
  have HG2:Hid (GoP w w3 rb e bl pr res (fun r2=>(Par.labelR e r2).bind fun l r3=>.ok (⟨ba [],2,l⟩:Prm) r3) r3 v3):=hg3
  have hn3:=go_blk hq3 HN2.out (by omega)
  clear HN2
  have HN2:Hid (w3.heap[w.heap.size]? =some (.cells #[.string ⟨#[]⟩,.int .i64 0,.slice none 0 0] 85 (0,0))):=hn3
  clear hp hg3 hq3 hn3
  go_wp2_with fail
  refine(labelC HG2.out.rd).mono ?_
  intro x w5 hp
  rcases go_of HG2.out hp with⟨l,r5,u,v5,rfl,⟨lo,ln,lc,rfl,hlab⟩,hq5,hg5⟩|⟨hgr,c,q,hr,rfl,r,v',hrd⟩
  rotate_left
  ·exact⟨rfl,hgr,.inr ⟨c,q,hr,rfl,r,v',hrd⟩⟩
  have hn5:=go_blk hq5 HN2.out (by omega)
  have HN5:Hid (w5.heap[w.heap.size]? =some (.cells #[.string ⟨#[]⟩,.int .i64 0,.slice none 0 0] 85 (0,0))):=hn5
  have HG5:Hid _:=hg5
  have hw2:w.heap.size<w3.heap.size:=lt_of_block HN2.out
  have HLB:Hid (LabV w5 (fun b=>w.heap.size+1≤b) (.slice lo ln lc) l):=hlab.mono fun b hb _=>by omega
  obtain⟨⟨e0,e1,e2⟩,g0,g1,g2⟩:=blk3 hn5
  have l5:=lt_of_block hn5
  clear hp hq5 hg5 hn5 hlab
  go_wp2
  obtain⟨wf,hwf⟩:∃wf,wf=((w5.setCell ⟨w.heap.size,0,none⟩ (.string ⟨#[]⟩)).setCell ⟨w.heap.size,1,none⟩ (.int .i64 2)).setCell ⟨w.heap.size,2,none⟩ (.slice lo ln lc):=⟨_,rfl⟩
  have hbf:Below w.heap.size w5 wf:=by rw[hwf];exact(((Below.refl _ _).setCell (by simp) _).setCell (by simp) _).setCell (by simp) _
  have hkf:∀k,k≠w.heap.size→wf.heap[k]? =w5.heap[k]? :=fun k hk=>by rw[hwf,Below.heap_setCell _ _ _ _ hk,Below.heap_setCell _ _ _ _ hk,Below.heap_setCell _ _ _ _ hk]
  have hnf:wf.heap[w.heap.size]? =some (.cells #[.string ⟨#[]⟩,.int .i64 2,.slice lo ln lc] 85 (0,0)):=by rw[hwf];simp[World.setCell,Array.getElem?_modify,HN5.out]
  rw[←hwf]
  obtain⟨⟨k0,k1,k2⟩,_⟩:=blk3 hnf
  refine bodyPost_ret (v:=.agg #[.string ⟨#[]⟩,.int .i64 2,.slice lo ln lc]) (by simp[results,Tryz.results65,go_sem,k0,k1,k2]) rfl ?_
  have hlf:=(HLB.out.keeps (w':=wf) ⟨hbf.size,fun b hb _=>hkf b (by omega)⟩).mono (S':=fun b=>w.heap.size≤b) fun b hb _=>by omega
  exact⟨fin_grown HG5.out.gr hbf,.inl ⟨_,_,HG5.out.eq,_,_,rfl,⟨_,_,_,_,_,rfl,_,rfl,(by show(ba []).size≤maxLen;decide),hlf⟩,HG5.out.rd.keeps hbf HG5.out.lo⟩⟩
theorem paramC {w:World}{rb e:Nat}{bl pr:Int}{ts:List Tok}{v:Value}(h:Rd w rb e bl pr ts v):
 Calls Tryz.prog 62 #[.pointer (some ⟨rb,0,none⟩)] w (Post w rb e bl pr (Par.paramR e ts) (VM w.heap.size)):=by
 obtain⟨res,hres⟩:∃res,res=Par.paramR e ts:=⟨_,rfl⟩
 rw[←hres]
 have hlt:=h.lt
 obtain⟨w0,hw0⟩:∃w0,w0=w.alloc (.cells #[.string ⟨#[]⟩,.int .i64 0,.slice none 0 0] 85):=⟨_,rfl⟩
 have hbel:Below w.heap.size w w0:=by rw[hw0];exact(Below.refl _ _).alloc (Nat.le_refl _) _
 have HN:Hid (w0.heap[w.heap.size]? =some (.cells #[.string ⟨#[]⟩,.int .i64 0,.slice none 0 0] 85 (0,0))):=by show _=_;rw[hw0];exact heap_at_alloc _ _ _ rfl
 have HG:Hid (GoP w w0 rb e bl pr res (fun ts=>(Par.nameR e ts).bind fun s r1=>((Par.kindR e r1).bind fun k r=>.ok (⟨ba [],k.1,k.2⟩:Prm) r).bind fun q r2=>.ok (⟨s,q.type,q.lab⟩:Prm) r2) ts v):=by
  have h9:=go_new (K:=Par.paramR e) h hbel
  refine⟨h9.gr,h9.rd,?_,h9.lo⟩
  rw[hres]
  unfold Par.paramR
  cases Par.nameR e ts with
  | no c q=>rfl
  | ok s r=>
   show(Par.kindR e r).bind _=((Par.kindR e r).bind _).bind _
   cases Par.kindR e r<;>rfl
 clear h hres hbel
 go_enter Tryz.func62,Tryz.ntmps62
 go_wp2_with fail
 rw[←hw0]
 clear hw0
 refine(rName_any HG.out.rd).mono ?_
 intro x w1 hp
 rcases go_of HG.out hp with⟨s,r,u,v',rfl,⟨rfl,hsz⟩,hq1,hg1⟩|⟨hgr,c,q,hr,rfl,r,v',hrd⟩
 rotate_left
 ·exact⟨rfl,hgr,.inr ⟨c,q,hr,rfl,r,v',hrd⟩⟩
 have HG1:Hid _:=hg1
 have HSZ:Hid (s.size≤maxLen):=hsz
 have HN1:Hid (w1.heap[w.heap.size]? =some (.cells #[.string ⟨#[]⟩,.int .i64 0,.slice none 0 0] 85 (0,0))):=go_blk hq1 HN.out (by omega)
 clear hp hg1 hq1 hsz
 go_wp2_with fail
 refine(kindC HG1.out.rd).mono ?_
 intro x w2 hp
 rcases go_of (P:=fun ts=>(Par.kindR e ts).bind fun k r=>.ok (⟨ba [],k.1,k.2⟩:Prm) r) HG1.out hp with⟨q2,r2,u,v2,rfl,⟨z0,z1,z2,m2,d2,rfl,hpm⟩,hq2,hg2⟩|⟨hgr,c,q,hr,rfl,r,v',hrd⟩
 rotate_left
 ·exact⟨rfl,hgr,.inr ⟨c,q,hr,rfl,r,v',hrd⟩⟩
 have hn2:=go_blk hq2 HN1.out (by omega)
 have HG2:Hid _:=hg2
 have hl1:w.heap.size<w1.heap.size:=lt_of_block HN1.out
 have HPM:Hid (PmIs w2 (fun b=>w.heap.size+1≤b) q2 [.string z0,.int .i64 z1,.slice z2 m2 d2]):=isElM.mono hpm fun b hb _=>by omega
 have HN2:Hid (w2.heap[w.heap.size]? =some (.cells #[.string ⟨#[]⟩,.int .i64 0,.slice none 0 0] 85 (0,0))):=hn2
 obtain⟨⟨e0,e1,e2⟩,g0,g1,g2⟩:=blk3 hn2
 have l5:=lt_of_block hn2
 have hne:¬w2.heap.size=w.heap.size:=by omega
 have hne':¬w.heap.size=w2.heap.size:=by omega
 clear hp hq2 hg2 hn2 hpm
 go_wp2
 obtain⟨wf,hwf⟩:∃wf,wf=(((w2.setCell ⟨w.heap.size,0,none⟩ (.string s)).setCell ⟨w.heap.size,1,none⟩ (.int .i64 z1)).setCell ⟨w.heap.size,2,none⟩ (.slice z2 m2 d2)).alloc (.cells #[.string s,.int .i64 z1,.slice z2 m2 d2] 85):=⟨_,rfl⟩
 have hbf:Below w.heap.size w2 wf:=by rw[hwf];exact((((Below.refl _ _).setCell (by simp) _).setCell (by simp) _).setCell (by simp) _).alloc (by simp[World.setCell];omega) _
 have hkf:∀k,k<w2.heap.size→k≠w.heap.size→wf.heap[k]? =w2.heap[k]? :=fun k hl hk=>by rw[hwf,Below.heap_alloc _ _ _ (by simpa[World.setCell] using hl),Below.heap_setCell _ _ _ _ hk,Below.heap_setCell _ _ _ _ hk,Below.heap_setCell _ _ _ _ hk]
 have hnf:wf.heap[w.heap.size]? =some (.cells #[.string s,.int .i64 z1,.slice z2 m2 d2] 85 (0,0)):=by rw[hwf];exact heap_past_alloc (by simp[World.setCell,Array.getElem?_modify,HN2.out])
 rw[←hwf]
 obtain⟨⟨k0,k1,k2⟩,_⟩:=blk3 hnf
 refine bodyPost_ret (v:=.agg #[.string s,.int .i64 z1,.slice z2 m2 d2]) (by simp[results,Tryz.results62,go_sem,k0,k1,k2]) rfl ?_
 have hpf:PmIs wf (fun b=>w.heap.size+1≤b) q2 [.string z0,.int .i64 z1,.slice z2 m2 d2]:=isElM.keeps HPM.out ⟨hbf.size,fun b hb hl=>hkf b hl (by omega)⟩
 obtain⟨lv,h1,_,h3⟩:=hpf
 simp only[List.cons.injEq,Value.int.injEq,and_true,true_and] at h1
 obtain⟨_,h4,rfl⟩:=h1
 exact⟨fin_grown HG2.out.gr hbf,.inl ⟨_,_,HG2.out.eq,_,_,rfl,⟨_,_,_,_,_,rfl,_,(by rw[h4]),HSZ.out,h3.mono fun b hb _=>by omega⟩,HG2.out.rd.keeps hbf HG2.out.lo⟩⟩
theorem blk5 {w:World}{b:Nat}{x0 x1 x2 x3 x4:Value}{e:TypeId}(h:w.heap[b]? =some (.cells #[x0,x1,x2,x3,x4] e (0,0))):(w.cell? ⟨b,0,none⟩=some x0∧w.cell? ⟨b,1,none⟩=some x1∧w.cell? ⟨b,2,none⟩=some x2∧w.cell? ⟨b,3,none⟩=some x3∧w.cell? ⟨b,4,none⟩=some x4)∧w.frozen? ⟨b,0,none⟩=false∧w.frozen? ⟨b,1,none⟩=false∧w.frozen? ⟨b,2,none⟩=false∧w.frozen? ⟨b,3,none⟩=false∧w.frozen? ⟨b,4,none⟩=false:=by
 refine⟨⟨?_,?_,?_,?_,?_⟩,?_,?_,?_,?_,?_⟩<;>simp[World.cell?,World.frozen?,h]
theorem chanC {w:World}{rb e:Nat}{bl pr:Int}{t:Tok}{r0:List Tok}{v:Value}(h:Rd w rb e bl pr (t::r0) v):
 Calls Tryz.prog 43 #[.pointer (some ⟨rb,0,none⟩)] w (Post w rb e bl pr (Par.chanR e (t::r0)) (VC w.heap.size)):=by
 obtain⟨res,hres⟩:∃res,res=Par.chanR e (t::r0):=⟨_,rfl⟩
 rw[←hres]
 have hlt:=h.lt
 obtain⟨w0,hw0⟩:∃w0,w0=w.alloc (.cells #[.int .i64 0,.string ⟨#[]⟩,.bool false,.int .i64 0,.slice none 0 0] 54):=⟨_,rfl⟩
 have hbel:Below w.heap.size w w0:=by rw[hw0];exact(Below.refl _ _).alloc (Nat.le_refl _) _
 have HN:Hid (w0.heap[w.heap.size]? =some (.cells #[.int .i64 0,.string ⟨#[]⟩,.bool false,.int .i64 0,.slice none 0 0] 54 (0,0))):=by show _=_;rw[hw0];exact heap_at_alloc _ _ _ rfl
 have h0:Rd w0 rb e bl pr (t::r0) v:=h.keeps hbel h.lt
 have HB0:Hid (Below w.heap.size w w0):=hbel
 have HRS:Hid (res=(Par.paramR e r0).bind fun q r1=>(Par.must e [59] r1).bind fun _ r2=>.ok (⟨(t.2.1:Int),q.name,t.2.2==Par.wIn,q.type,q.lab⟩:Chn) r2):=hres
 have HTK:=rTake_any h0
 clear h hres hbel h0
 go_enter Tryz.func43,Tryz.ntmps43
 go_wp2_with fail
 rw[←hw0]
 clear hw0
 refine HTK.mono ?_
 rintro x w1 ⟨rfl,hq1,v1,hrd1⟩
 have hn1:=go_blk hq1 HN.out (by omega)
 obtain⟨w1',hw1'⟩:∃w1',w1'=w1.alloc (.cells #[.int .i64 t.1,.int .i64 (t.2.1:Int),.string (ba t.2.2)] 106):=⟨_,rfl⟩
 have hb1:Below w1.heap.size w1 w1':=by rw[hw1'];exact(Below.refl _ _).alloc (Nat.le_refl _) _
 have HG1:Hid (GoP w w1' rb e bl pr res (fun r0=>(Par.paramR e r0).bind fun q r1=>(Par.must e [59] r1).bind fun _ r2=>.ok (⟨(t.2.1:Int),q.name,t.2.2==Par.wIn,q.type,q.lab⟩:Chn) r2) r0 v1):=⟨grown_below (grown_trans (grown_of_below _ HB0.out) hq1) hb1,hrd1.keeps hb1 hrd1.lt,HRS.out,hlt⟩
 have HN1:Hid (w1'.heap[w.heap.size]? =some (.cells #[.int .i64 0,.string ⟨#[]⟩,.bool false,.int .i64 0,.slice none 0 0] 54 (0,0))):=(hb1.block _ (lt_of_block hn1)).trans hn1
 have HK1:Hid (w1'.heap[w1.heap.size]? =some (.cells #[.int .i64 t.1,.int .i64 (t.2.1:Int),.string (ba t.2.2)] 106 (0,0))):=by show _=_;rw[hw1'];exact heap_at_alloc _ _ _ rfl
 have hl1:w.heap.size<w1.heap.size:=lt_of_block hn1
 clear hq1 hrd1 hb1 hn1 HTK
 go_wp2_with fail
 rw[←hw1']
 clear hw1'
 refine(paramC HG1.out.rd).mono ?_
 intro x w2 hp
 rcases go_of HG1.out hp with⟨q2,r2,u,v2,rfl,⟨z0,z1,z2,m2,d2,rfl,hpm⟩,hq2,hg2⟩|⟨hgr,c,q,hr,rfl,r,v',hrd⟩
 rotate_left
 ·exact⟨rfl,hgr,.inr ⟨c,q,hr,rfl,r,v',hrd⟩⟩
 have hn2:=go_blk hq2 HN1.out (by omega)
 have hk2:=go_blk hq2 HK1.out (by omega)
 obtain⟨w3,hw3⟩:∃w3,w3=w2.alloc (.cells #[.string z0,.int .i64 z1,.slice z2 m2 d2] 85):=⟨_,rfl⟩
 have hb3:Below w2.heap.size w2 w3:=by rw[hw3];exact(Below.refl _ _).alloc (Nat.le_refl _) _
 have HG3:Hid _:=hg2.later hb3
 have HN3:Hid (w3.heap[w.heap.size]? =some (.cells #[.int .i64 0,.string ⟨#[]⟩,.bool false,.int .i64 0,.slice none 0 0] 54 (0,0))):=(hb3.block _ (lt_of_block hn2)).trans hn2
 have HK3:Hid (w3.heap[w1.heap.size]? =some (.cells #[.int .i64 t.1,.int .i64 (t.2.1:Int),.string (ba t.2.2)] 106 (0,0))):=(hb3.block _ (lt_of_block hk2)).trans hk2
 have HP3:Hid (w3.heap[w2.heap.size]? =some (.cells #[.string z0,.int .i64 z1,.slice z2 m2 d2] 85 (0,0))):=by show _=_;rw[hw3];exact heap_at_alloc _ _ _ rfl
 have hl2:w1.heap.size<w2.heap.size:=lt_of_block hk2
 have hz1:w1.heap.size+1≤w1'.heap.size:=lt_of_block HK1.out
 have HPM:Hid (PmIs w3 (fun b=>w.heap.size+1≤b) q2 [.string z0,.int .i64 z1,.slice z2 m2 d2]):=isElM.mono (isElM.keeps hpm (Keeps.of_below hb3)) fun b hb _=>by omega
 clear hp hq2 hg2 hn2 hk2 hpm hb3
 go_wp2_with fail
 rw[←hw3]
 clear hw3
 refine(rMust_any ⟨#[59]⟩ (by decide) HG3.out.rd).mono ?_
 intro x w5 hp
 rcases go_of (P:=Par.must e [59]) HG3.out hp with⟨a5,r5,u,v5,rfl,rfl,hq5,hg5⟩|⟨hgr,c,q,hr,rfl,r,v',hrd⟩
 rotate_left
 ·exact⟨rfl,hgr,.inr ⟨c,q,hr,rfl,r,v',hrd⟩⟩
 have hn5:=go_blk hq5 HN3.out (by omega)
 have hk5:=go_blk hq5 HK3.out (by omega)
 have hp5:=go_blk hq5 HP3.out (by omega)
 have HN5:Hid (w5.heap[w.heap.size]? =some (.cells #[.int .i64 0,.string ⟨#[]⟩,.bool false,.int .i64 0,.slice none 0 0] 54 (0,0))):=hn5
 have HPM5:Hid (PmIs w5 (fun b=>w.heap.size+1≤b) q2 [.string z0,.int .i64 z1,.slice z2 m2 d2]):=isElM.keeps HPM.out (Keeps.of_grown hq5 fun b hb=>by simp;omega)
 have HG5:Hid _:=hg5
 obtain⟨⟨e0,e1,e2,e3,e4⟩,g0,g1,g2,g3,g4⟩:=blk5 hn5
 obtain⟨⟨i0,i1,i2⟩,_⟩:=blk3 hk5
 obtain⟨⟨j0,j1,j2⟩,_⟩:=blk3 hp5
 have l5:=lt_of_block hn5
 have l6:=lt_of_block hk5
 have l7:=lt_of_block hp5
 have hin:((ba t.2.2).toList==[105,110])=(t.2.2==Par.wIn):=by rw[Lex.list_of];rfl
 obtain⟨bi,hbi⟩:∃bi,bi=(t.2.2==Par.wIn):=⟨_,rfl⟩
 rw[←hbi] at hin
 have HBI:Hid (bi=(t.2.2==Par.wIn)):=hbi
 clear hp hq5 hg5 hn5 hk5 hp5 hbi
 go_wp2
 obtain⟨wf,hwf⟩:∃wf,wf=((((w5.setCell ⟨w.heap.size,0,none⟩ (.int .i64 (t.2.1:Int))).setCell ⟨w.heap.size,1,none⟩ (.string z0)).setCell ⟨w.heap.size,2,none⟩ (.bool bi)).setCell ⟨w.heap.size,3,none⟩ (.int .i64 z1)).setCell ⟨w.heap.size,4,none⟩ (.slice z2 m2 d2):=⟨_,rfl⟩
 have hbf:Below w.heap.size w5 wf:=by rw[hwf];exact(((((Below.refl _ _).setCell (by simp) _).setCell (by simp) _).setCell (by simp) _).setCell (by simp) _).setCell (by simp) _
 have hkf:∀k,k≠w.heap.size→wf.heap[k]? =w5.heap[k]? :=fun k hk=>by rw[hwf];iterate 5 rw[Below.heap_setCell _ _ _ _ hk]
 have hnf:wf.heap[w.heap.size]? =some (.cells #[.int .i64 (t.2.1:Int),.string z0,.bool bi,.int .i64 z1,.slice z2 m2 d2] 54 (0,0)):=by rw[hwf];simp[World.setCell,Array.getElem?_modify,HN5.out]
 rw[←hwf]
 obtain⟨⟨k0,k1,k2,k3,k4⟩,_⟩:=blk5 hnf
 refine bodyPost_ret (v:=.agg #[.int .i64 (t.2.1:Int),.string z0,.bool bi,.int .i64 z1,.slice z2 m2 d2]) (by simp[results,Tryz.results43,go_sem,k0,k1,k2,k3,k4]) rfl ?_
 have hpf:PmIs wf (fun b=>w.heap.size+1≤b) q2 [.string z0,.int .i64 z1,.slice z2 m2 d2]:=isElM.keeps HPM5.out ⟨hbf.size,fun b hb _=>hkf b (by omega)⟩
 obtain⟨lv,h1,h2,h3⟩:=hpf
 simp only[List.cons.injEq,Value.int.injEq,Value.string.injEq,and_true,true_and] at h1
 obtain⟨h5,h4,rfl⟩:=h1
 refine⟨fin_grown HG5.out.gr hbf,.inl ⟨_,_,HG5.out.eq,_,_,rfl,⟨_,_,_,_,_,_,_,rfl,_,?_,h2,h3.mono fun b hb _=>by omega⟩,HG5.out.rd.keeps hbf HG5.out.lo⟩⟩
 rw[h5,h4,HBI.out]
open Par (Stm Prm Chn Prc Prg Tok Po Tr nx atP isT ba Res)
theorem Tryz.infoLT:(Tryz.prog.info? 136).map (fun i=>(i.zero,i.size,i.bytes))=some (some (.agg #[.int .i64 0,.int .i64 0,.string ⟨#[]⟩,.string ⟨#[]⟩,.bool false,.slice none 0 0,.int .i64 0,.int .i64 0,.int .i64 0,.int .i64 0,.string ⟨#[]⟩,.slice none 0 0,.slice none 0 0,.slice none 0 0,.slice none 0 0]),15,224):=by kernel_rfl
def VT (B:Nat)(w':World)(a:Stm)(u:Value):Prop:=∃(z0 z1:Int) (z2 z3:ByteArray) (z4:Bool) (z5:Option Addr) (m5 d5:Nat) (z6 z7 z8 z9:Int) (z10:ByteArray) (z11:Option Addr) (m11 d11:Nat) (z12:Option Addr) (m12 d12:Nat) (z13:Option Addr) (m13 d13:Nat) (z14:Option Addr) (m14 d14:Nat),u=.agg #[.int .i64 z0,.int .i64 z1,.string z2,.string z3,.bool z4,.slice z5 m5 d5,.int .i64 z6,.int .i64 z7,.int .i64 z8,.int .i64 z9,.string z10,.slice z11 m11 d11,.slice z12 m12 d12,.slice z13 m13 d13,.slice z14 m14 d14]∧StIs w' (fun b=>B≤b) a [.int .i64 z0,.int .i64 z1,.string z2,.string z3,.bool z4,.slice z5 m5 d5,.int .i64 z6,.int .i64 z7,.int .i64 z8,.int .i64 z9,.string z10,.slice z11 m11 d11,.slice z12 m12 d12,.slice z13 m13 d13,.slice z14 m14 d14]
theorem newT (w:World)(e:TypeId){x0 x1 x2 x3 x4 x5 x6 x7 x8 x9 x10 x11 x12 x13 x14:Value}:∀j u,([x0,x1,x2,x3,x4,x5,x6,x7,x8,x9,x10,x11,x12,x13,x14]:List Value)[j]? =some u→(w.alloc (.cells #[x0,x1,x2,x3,x4,x5,x6,x7,x8,x9,x10,x11,x12,x13,x14] e)).cell? ((⟨w.heap.size,0,none⟩:Addr).add j)=some u:=by
 intro j u hj
 have e0:(w.alloc (.cells #[x0,x1,x2,x3,x4,x5,x6,x7,x8,x9,x10,x11,x12,x13,x14] e)).cell? ⟨w.heap.size,j,none⟩=(#[x0,x1,x2,x3,x4,x5,x6,x7,x8,x9,x10,x11,x12,x13,x14]:Array Value)[j]? :=World.cell?_alloc_at _ _ _ _ (by simp)
 have e1:(⟨w.heap.size,0,none⟩:Addr).add j=⟨w.heap.size,j,none⟩:=by simp[Addr.add];intro h;exact h.symm
 rw[e1,e0];simpa using hj
theorem moreWT {w:World}{rb e:Nat}{bl pr:Int}{ts:List Tok}{v:Value}(h:Rd w rb e bl pr ts v){B n:Nat}{lv:Value}{css:List (List Value)}(ho:w.ownsRow B 136 15 lv n css.flatten)(hrB:rb<B)(hB:B≤w.heap.size)(most:Nat)(hm:most≤1000)(hacc:n≤most)
 (g:Nat) (fs lb:Array Value) (eg:∀args w,(callFunc g args).run Tryz.prog w=.ok (.enter g args) w) (pt:Res Stm) (hp:Calls Tryz.prog g (fs++lb) w (Post w rb e bl pr pt (VT w.heap.size))):
 Calls Tryz.prog 106 #[.pointer (some ⟨rb,0,none⟩),lv,.int .i64 (most:Int),.func (.func g) fs lb] w (MoP StIs w rb e bl pr B 136 15 most n css lv ts pt):=by
 obtain⟨ao,c,rfl⟩:=own_slice ho
 have H:Hid (Rd w rb e bl pr ts v):=h
 have HO:Hid (w.ownsRow B 136 15 (.slice ao n c) n css.flatten):=ho
 have HB:Hid (B≤w.heap.size):=hB
 clear h ho hB
 by_cases hf:n=most
 ·have hi:((n:Int)==(most:Int))=true:=by simp[hf]
  have HF:Hid (n=most):=hf
  clear hf hp
  go_enter Tryz.func106,Tryz.ntmps106
  go_wp2_with fail
  refine(rGive_any _ H.out).mono ?_
  rintro x w2 ⟨rfl,hw2⟩
  subst hw2
  exact⟨rfl,.inl ⟨HF.out,rfl,rfl⟩⟩
 ·have hi:((n:Int)==(most:Int))=false:=by simp;omega
  have HF:Hid (n≠most):=hf
  obtain⟨i0,hi0,hz0,hz1,hz2⟩:=info_parts Tryz.infoLT
  have hln:n<1000:=by omega
  clear hf
  go_enter Tryz.func106,Tryz.ntmps106
  go_wp2_with fail
  refine hp.mono ?_
  rintro x w1 ⟨hg,⟨a,r,hpt,u,v',rfl,⟨z0,z1,z2,z3,z4,z5,m5,d5,z6,z7,z8,z9,z10,z11,m11,d11,z12,m12,d12,z13,m13,d13,z14,m14,d14,rfl,hx⟩,h1⟩|⟨cc,q,hpt,rfl,r,v',h1⟩⟩
  ·have HG:Hid (w.grownBy w1 (some rb)):=hg
   have HPT:Hid (pt=.ok a r):=hpt
   have H1:Hid (Rd w1 rb e bl pr r v'):=h1
   have HX:Hid (StIs w1 (fun b=>w.heap.size≤b) a [.int .i64 z0,.int .i64 z1,.string z2,.string z3,.bool z4,.slice z5 m5 d5,.int .i64 z6,.int .i64 z7,.int .i64 z8,.int .i64 z9,.string z10,.slice z11 m11 d11,.slice z12 m12 d12,.slice z13 m13 d13,.slice z14 m14 d14]):=hx
   have HP:Hid (w1.ownsRow B 136 15 (.slice ao n c) n css.flatten):=own_kept HO.out hg hrB
   have hsz1:w.heap.size≤w1.heap.size:=hg.size
   clear hg h1 hx hpt
   go_wp2_with (at_builtin;refine wpList_append_own_at _ rfl _ _ 86 rfl B 136 i0 (.agg #[.int .i64 0,.int .i64 0,.string ⟨#[]⟩,.string ⟨#[]⟩,.bool false,.slice none 0 0,.int .i64 0,.int .i64 0,.int .i64 0,.int .i64 0,.string ⟨#[]⟩,.slice none 0 0,.slice none 0 0,.slice none 0 0,.slice none 0 0]) 15 224 Tryz.underlying86 hi0 hz0 hz1 hz2 rfl (by decide) _ _ _ rfl (World.ownsRow.alloc HP.out _) ⟨w1.heap.size,0,none⟩ 1 1 [.int .i64 z0,.int .i64 z1,.string z2,.string z3,.bool z4,.slice z5 m5 d5,.int .i64 z6,.int .i64 z7,.int .i64 z8,.int .i64 z9,.string z10,.slice z11 m11 d11,.slice z12 m12 d12,.slice z13 m13 d13,.slice z14 m14 d14] rfl rfl ?c1 ?c2 ?c3 ?c4 ?c5 ?_)
   case c1=>exact newT _ _
   case c2=>exact isElSt.one HX.out
   case c3=>unfold maxLen;omega
   case c4=>omega
   case c5=>have:=HB.out;simp;omega
   ·intro u' w2 hown2 hgrow2 _ hat2
    have hba:Below w1.heap.size w1 (w1.alloc (.cells #[.int .i64 z0,.int .i64 z1,.string z2,.string z3,.bool z4,.slice z5 m5 d5,.int .i64 z6,.int .i64 z7,.int .i64 z8,.int .i64 z9,.string z10,.slice z11 m11 d11,.slice z12 m12 d12,.slice z13 m13 d13,.slice z14 m14 d14] 136)):=(Below.refl _ _).alloc (Nat.le_refl _) _
    have HN:Hid (MoP StIs w rb e bl pr B 136 15 most n css (.slice ao n c) ts pt (.returned u') w2):=.inr ⟨HF.out,.inr ⟨a,r,u',v',[.int .i64 z0,.int .i64 z1,.string z2,.string z3,.bool z4,.slice z5 m5 d5,.int .i64 z6,.int .i64 z7,.int .i64 z8,.int .i64 z9,.string z10,.slice z11 m11 d11,.slice z12 m12 d12,.slice z13 m13 d13,.slice z14 m14 d14],_,HPT.out,rfl,HG.out.trans (grown_of_below _ hba),isElSt.keeps HX.out (Keeps.of_below hba),hgrow2,hown2,by simpa using hat2,H1.out.keeps hba H1.out.lt⟩⟩
    clear hown2 hgrow2 hat2 hba
    go_wp2
    go_ret
    exact HN.out
  ·exact⟨rfl,.inr ⟨HF.out,.inl ⟨cc,q,hpt,rfl,hg,r,v',h1⟩⟩⟩
theorem moreT {w:World}{rb e:Nat}{bl pr:Int}{ts:List Tok}{v:Value}(h:Rd w rb e bl pr ts v){B:Nat}{lv:Value}{acc:List Stm}(ho:OwnL StIs w B 136 15 lv acc)(hrB:rb<B)(hB:B≤w.heap.size)(most:Nat)(hm:most≤1000)(hacc:acc.length≤most)
 (g:Nat) (fs lb:Array Value) (eg:∀args w,(callFunc g args).run Tryz.prog w=.ok (.enter g args) w) (pt:Res Stm) (hp:Calls Tryz.prog g (fs++lb) w (Post w rb e bl pr pt (VT w.heap.size))):
 Calls Tryz.prog 106 #[.pointer (some ⟨rb,0,none⟩),lv,.int .i64 (most:Int),.func (.func g) fs lb] w (PostB B w rb e bl pr (if acc.length=most then .no 2 (atP e ts) else pt.bind fun a r=>.ok (acc++[a]) r) (fun w' l u=>OwnL StIs w' B 136 15 u l)):=by
 obtain⟨css,h1,h2,h3⟩:=ho.ex
 exact(moreWT h h1 hrB hB most hm hacc g fs lb eg pt hp).mono fun x w' h9=>mop_of isElSt h hrB hB h1 h2 h3 h9
open Par (Tok Po Tr nx atP isT ba Res)
def ZE:Array Value:=#[.int .i64 0,.int .i64 0,.int .i64 0,.int .i64 0,.string ⟨#[]⟩,.slice none 0 0,.slice none 0 0]
theorem fin7 {w wz:World}{rb e:Nat}{bl pr:Int}{r:List Tok}{v:Value}{t:Tr}{y0 y1 y2 y3 y4 y5 y6:Value}(hg:w.grownBy wz (some rb))(hr:Rd wz rb e bl pr r v)(hrl:rb<w.heap.size)(ht:TrIs wz (fun b=>w.heap.size+1≤b) t [y0,y1,y2,y3,y4,y5,y6]):
 w.grownBy (((((((wz.setCell ⟨w.heap.size,0,none⟩ y0).setCell ⟨w.heap.size,1,none⟩ y1).setCell ⟨w.heap.size,2,none⟩ y2).setCell ⟨w.heap.size,3,none⟩ y3).setCell ⟨w.heap.size,4,none⟩ y4).setCell ⟨w.heap.size,5,none⟩ y5).setCell ⟨w.heap.size,6,none⟩ y6) (some rb)∧
 Rd (((((((wz.setCell ⟨w.heap.size,0,none⟩ y0).setCell ⟨w.heap.size,1,none⟩ y1).setCell ⟨w.heap.size,2,none⟩ y2).setCell ⟨w.heap.size,3,none⟩ y3).setCell ⟨w.heap.size,4,none⟩ y4).setCell ⟨w.heap.size,5,none⟩ y5).setCell ⟨w.heap.size,6,none⟩ y6) rb e bl pr r v∧
 TrIs (((((((wz.setCell ⟨w.heap.size,0,none⟩ y0).setCell ⟨w.heap.size,1,none⟩ y1).setCell ⟨w.heap.size,2,none⟩ y2).setCell ⟨w.heap.size,3,none⟩ y3).setCell ⟨w.heap.size,4,none⟩ y4).setCell ⟨w.heap.size,5,none⟩ y5).setCell ⟨w.heap.size,6,none⟩ y6) (fun b=>w.heap.size≤b) t [y0,y1,y2,y3,y4,y5,y6]:=by
 obtain⟨wf,hwf⟩:∃wf,wf=(((((((wz.setCell ⟨w.heap.size,0,none⟩ y0).setCell ⟨w.heap.size,1,none⟩ y1).setCell ⟨w.heap.size,2,none⟩ y2).setCell ⟨w.heap.size,3,none⟩ y3).setCell ⟨w.heap.size,4,none⟩ y4).setCell ⟨w.heap.size,5,none⟩ y5).setCell ⟨w.heap.size,6,none⟩ y6):=⟨_,rfl⟩
 have hk:wz.grownBy wf (some w.heap.size):=by rw[hwf];exact keptE
 rw[←hwf]
 have hb:Below w.heap.size wz wf:=⟨hk.os,hk.tape,hk.output,hk.size,fun k h=>hk.block k (by have:=hg.size;omega) (by simp;omega)⟩
 refine⟨((Fr.of_grown hg (Nat.le_refl _)).trans (Fr.of_below hb)).grown,hr.keeps hb (by omega),(ht.keeps (Keeps.of_grown hk fun b hb=>by simp;omega)).mono fun b hb _=>by omega⟩
theorem rowTwo {w:World}{S:Nat→Prop}{x y:Tr}{cx cy:List Value}(hx:TrIs w S x cx)(hy:TrIs w S y cy)(hS:S w.heap.size)(e:TypeId):RowV (w.alloc (.cells (cx++cy).toArray e)) S 7 (.slice (some ⟨w.heap.size,0,none⟩) 2 2) [cx,cy]:=
 RowV.new rfl (by simp[maxLen]) (by simp) (fun i hi=>by
  match i,hi with
  | 0,_=>exact hx.len
  | 1,_=>exact hy.len) hS
theorem rowOne {w:World}{S:Nat→Prop}{x:Tr}{cx:List Value}(hx:TrIs w S x cx)(hS:S w.heap.size)(e:TypeId):RowV (w.alloc (.cells cx.toArray e)) S 7 (.slice (some ⟨w.heap.size,0,none⟩) 1 1) [cx]:=
 RowV.new rfl (by simp[maxLen]) (by simp) (fun i hi=>by
  match i,hi with
  | 0,_=>exact hx.len) hS
theorem labNone (w:World)(S:Nat→Prop):LabV w S (.slice none 0 0) []:=⟨⟨[],rfl,RowV.none _ _ _ _,fun i hi=>by simp at hi⟩,fun p hp=>by cases hp⟩
theorem opTwo {w:World}{S:Nat→Prop}{t:Tok}{x y:Tr}{cx cy:List Value}(ht:t.2.2.length≤4000)(hx:TrIs w S x cx)(hy:TrIs w S y cy)(hS:S w.heap.size)(e:TypeId):
 TrIs (w.alloc (.cells (cx++cy).toArray e)) S (Par.opT t [x,y]) [.int .i64 3,.int .i64 (t.2.1:Int),.int .i64 0,.int .i64 0,.string (ba t.2.2),.slice none 0 0,.slice (some ⟨w.heap.size,0,none⟩) 2 2]:=by
 have hk:Keeps S w (w.alloc (.cells (cx++cy).toArray e)):=Keeps.of_below ((Below.refl _ _).alloc (Nat.le_refl _) _)
 refine .mk (by rw[ba_size];unfold maxLen;omega) (labNone _ _) (rowTwo hx hy hS e) rfl (fun i hi hi'=> ?_)
 match i,hi with
 | 0,_=>exact hx.keeps hk
 | 1,_=>exact hy.keeps hk
theorem opOne {w:World}{S:Nat→Prop}{t:Tok}{x:Tr}{cx:List Value}(ht:t.2.2.length≤4000)(hx:TrIs w S x cx)(hS:S w.heap.size)(e:TypeId):
 TrIs (w.alloc (.cells cx.toArray e)) S (Par.opT t [x]) [.int .i64 3,.int .i64 (t.2.1:Int),.int .i64 0,.int .i64 0,.string (ba t.2.2),.slice none 0 0,.slice (some ⟨w.heap.size,0,none⟩) 1 1]:=by
 have hk:Keeps S w (w.alloc (.cells cx.toArray e)):=Keeps.of_below ((Below.refl _ _).alloc (Nat.le_refl _) _)
 refine .mk (by rw[ba_size];unfold maxLen;omega) (labNone _ _) (rowOne hx hS e) rfl (fun i hi hi'=> ?_)
 match i,hi with
 | 0,_=>exact hx.keeps hk
def PrimC (rb e:Nat)(bl pr:Int)(P:List Tok→Res Tr):Prop:=∀(w:World) (ts:List Tok) (v:Value),Rd w rb e bl pr ts v→Calls Tryz.prog 176 #[.pointer (some ⟨rb,0,none⟩)] w (Post w rb e bl pr (P ts) (VE w.heap.size))
def BndC (rb e:Nat)(bl pr:Int)(P:List Tok→Res Tr)(j:Nat):Prop:=∀(w:World) (ts:List Tok) (v:Value),Rd w rb e bl pr ts v→Calls Tryz.prog 165 #[.pointer (some ⟨rb,0,none⟩),.int .i64 ((6 - j:Nat):Int)] w (Post w rb e bl pr (Par.bd P j ts) (VE w.heap.size))
theorem bnd_zero {rb e:Nat}{bl pr:Int}{P:List Tok→Res Tr}(hP:PrimC rb e bl pr P):BndC rb e bl pr P 0:=by
 intro w ts v h
 have hrl:=h.lt
 obtain⟨w0,hw0⟩:∃w0,w0=w.alloc (.cells ZE 134):=⟨_,rfl⟩
 have hbel:Below w.heap.size w w0:=by rw[hw0];exact(Below.refl _ _).alloc (Nat.le_refl _) _
 have hs0:w0.heap.size=w.heap.size+1:=by rw[hw0];simp
 have hres:w0.heap[w.heap.size]? =some (.cells ZE 134 (0,0)):=by rw[hw0];exact heap_at_alloc _ _ _ rfl
 have HP:=hP w0 ts v (h.keeps hbel h.lt)
 unfold ZE at hw0
 clear h hP
 go_enter Tryz.func165,Tryz.ntmps165
 go_wp2_with fail
 rw[←hw0]
 refine HP.mono ?_
 rintro x w1 ⟨hg1,⟨a,r,hr,u,v1,rfl,⟨z0,z1,z2,z3,z4,z5,m5,d5,z6,m6,d6,rfl,hx⟩,h1⟩|⟨cc,q,hr,rfl,r,v1,h1⟩⟩
 ·have hres1:w1.heap[w.heap.size]? =some (.cells ZE 134 (0,0)):=(hg1.block _ (by omega) (by simp;omega)).trans hres
  have hn1:=lt_of_block hres1
  unfold ZE at hres1
  obtain⟨⟨q0,q1,q2,q3,q4,q5,q6⟩,p0,p1,p2,p3,p4,p5,p6⟩:=blkE hres1
  have HF:=Hid.out (p:=_) (show Hid _ from fin7 (grown_trans (grown_of_below _ hbel) hg1) h1 hrl (by rw[hs0] at hx;exact hx))
  have HFF:Hid _:=HF
  have HR:Hid (P ts=.ok a r):=hr
  clear hg1 hx h1 hres1 HF hr HP hres hbel
  go_wp2
  refine bodyPost_ret (v:=.agg #[.int .i64 z0,.int .i64 z1,.int .i64 z2,.int .i64 z3,.string z4,.slice z5 m5 d5,.slice z6 m6 d6]) (by simp[results,Tryz.results165,go_sem,q0,q1,q2,q3,q4,q5,q6]) rfl ?_
  obtain⟨f1,f2,f3⟩:=HFF.out
  exact⟨f1,.inl ⟨_,_,HR.out,_,_,rfl,⟨_,_,_,_,_,_,_,_,_,_,_,rfl,f3⟩,f2⟩⟩
 ·exact⟨rfl,grown_trans (grown_of_below _ hbel) hg1,.inr ⟨_,_,hr,rfl,_,_,h1⟩⟩
def leftOf (w:World)(rb:Nat):Nat:=match w.cell? ⟨rb,0,none⟩ with | some (.slice _ n _)=>n | _=>0
theorem leftOf_of {w:World}{rb e:Nat}{bl pr:Int}{ts:List Tok}{v:Value}(h:Rd w rb e bl pr ts v):leftOf w rb=ts.length:=by
 obtain⟨ao,b,off,c,hv,_⟩:=h.row
 unfold leftOf
 rw[h.cells.1,hv]
 simp
theorem Rd.drew {w:World}{rb e:Nat}{bl pr:Int}{ts:List Tok}{v:Value}(h:Rd w rb e bl pr ts v):Rd w.drew rb e bl pr ts v:=h.keeps (B:=w.heap.size) ⟨rfl,rfl,rfl,Nat.le_refl _,fun _ _=>rfl⟩ h.lt
theorem left_lt {w w':World}{rb e n:Nat}{bl pr:Int}{ts:List Tok}{v:Value}(h:Rd w' rb e bl pr ts v)(g:leftOf w rb=n+1)(hl:ts.length≤n):leftOf w' rb<leftOf w rb:=by
 rw[leftOf_of h,g];omega
structure Lp (w wr:World)(rb e X:Nat)(bl pr:Int)(Q:List Tok→Res Tr)(lv:Nat)(all:Res Tr)(y:Tr)(cs:List Value)(ts:List Tok)(v:Value):Prop where
 rd:Rd wr rb e bl pr ts v
 gr:w.grownBy wr (some rb)
 res:wr.heap[w.heap.size]? =some (.cells ZE 134 (0,0))
 xb:wr.heap[X]? =some (.cells cs.toArray 134 (0,0))
 big:w.heap.size<X
 tr:TrIs wr (fun b=>w.heap.size+1≤b∧b≠X) y cs
 eq:all=Par.loopF Q lv ts.length y ts
theorem loop_no {Q:List Tok→Res Tr}{lv:Nat}{y:Tr}{ts:List Tok}(h:¬Par.levF (nx ts).2.2=lv):Par.loopF Q lv ts.length y ts=.ok y ts:=by
 cases hn:ts.length with
 | zero=>rfl
 | succ n=>unfold Par.loopF;rw[if_neg h]
theorem loop_yes {Q:List Tok→Res Tr}{lv:Nat}{y:Tr}{t:Tok}{r:List Tok}(h:Par.levF t.2.2=lv)(hQ:Par.Sfx Q)(hl:0<lv):Par.loopF Q lv (t::r).length y (t::r)=(Q r).bind fun z r2=>Par.loopF Q lv r2.length (Par.opT t [y,z]) r2:=by
 show Par.loopF Q lv (r.length+1) y (t::r)=_
 conv=>lhs;unfold Par.loopF
 rw[if_pos (show Par.levF (nx (t::r)).2.2=lv from h)]
 show(Q r).bind (fun z r2=>Par.loopF Q lv r.length (Par.opT t [y,z]) r2)=_
 cases hq:Q r with
 | no c q=>rfl
 | ok z r2=>exact Par.loopF_fuel hQ hl _ _ _ _ (hQ _ _ _ hq).length_le (Nat.le_refl _)
theorem lp_next {w wk w4:World}{rb e X:Nat}{bl pr:Int}{Q:List Tok→Res Tr}{lv:Nat}{all:Res Tr}{y z:Tr}{t:Tok}{r4:List Tok}{v4:Value}{z0 z1 z2 z3:Int}{z4:ByteArray}{z5:Option Addr}{m5 d5:Nat}{z6:Option Addr}{m6 d6:Nat}{y0 y1 y2 y3:Int}{y4:ByteArray}{y5:Option Addr}{n5 c5:Nat}{y6:Option Addr}{n6 c6:Nat}
 (HGk:w.grownBy wk (some rb)) (HG4:wk.drew.grownBy w4 (some rb)) (hx4:w4.heap[X]? =some (.cells #[.int .i64 z0,.int .i64 z1,.int .i64 z2,.int .i64 z3,.string z4,.slice z5 m5 d5,.slice z6 m6 d6] 134 (0,0))) (HRk:wk.heap[w.heap.size]? =some (.cells ZE 134 (0,0))) (HTk:TrIs wk (fun b=>w.heap.size+1≤b∧b≠X) y [.int .i64 z0,.int .i64 z1,.int .i64 z2,.int .i64 z3,.string z4,.slice z5 m5 d5,.slice z6 m6 d6]) (HX4:ElT w4 (fun b=>wk.drew.heap.size≤b) z [.int .i64 y0,.int .i64 y1,.int .i64 y2,.int .i64 y3,.string y4,.slice y5 n5 c5,.slice y6 n6 c6]) (H4:Rd w4 rb e bl pr r4 v4)
 (hXb:w.heap.size<X) (hXk:X<wk.heap.size) (hrl:rb<w.heap.size) (ht:t.2.2.length≤4000) (heq:all=Par.loopF Q lv r4.length (Par.opT t [y,z]) r4):
 Lp w ((((((((w4.setCell ⟨X,0,none⟩ (.int .i64 3)).setCell ⟨X,1,none⟩ (.int .i64 (t.2.1:Int))).setCell ⟨X,2,none⟩ (.int .i64 0)).setCell ⟨X,3,none⟩ (.int .i64 0)).setCell ⟨X,4,none⟩ (.string (ba t.2.2))).setCell ⟨X,5,none⟩ (.slice none 0 0)).setCell ⟨X,6,none⟩ (.slice (some ⟨w4.heap.size,0,none⟩) 2 2)).alloc (.cells #[.int .i64 z0,.int .i64 z1,.int .i64 z2,.int .i64 z3,.string z4,.slice z5 m5 d5,.slice z6 m6 d6,.int .i64 y0,.int .i64 y1,.int .i64 y2,.int .i64 y3,.string y4,.slice y5 n5 c5,.slice y6 n6 c6] 134)) rb e X bl pr Q lv all (Par.opT t [y,z]) [.int .i64 3,.int .i64 (t.2.1:Int),.int .i64 0,.int .i64 0,.string (ba t.2.2),.slice none 0 0,.slice (some ⟨w4.heap.size,0,none⟩) 2 2] r4 v4:=by
 obtain⟨ws,hws⟩:∃ws,ws=(((((((w4.setCell ⟨X,0,none⟩ (.int .i64 3)).setCell ⟨X,1,none⟩ (.int .i64 (t.2.1:Int))).setCell ⟨X,2,none⟩ (.int .i64 0)).setCell ⟨X,3,none⟩ (.int .i64 0)).setCell ⟨X,4,none⟩ (.string (ba t.2.2))).setCell ⟨X,5,none⟩ (.slice none 0 0)).setCell ⟨X,6,none⟩ (.slice (some ⟨w4.heap.size,0,none⟩) 2 2)):=⟨_,rfl⟩
 have hk:w4.grownBy ws (some X):=by rw[hws];exact keptE
 have hsz:ws.heap.size=w4.heap.size:=by rw[hws];simp[World.setCell]
 have hwx:ws.heap[X]? =some (.cells ([.int .i64 3,.int .i64 (t.2.1:Int),.int .i64 0,.int .i64 0,.string (ba t.2.2),.slice none 0 0,.slice (some ⟨w4.heap.size,0,none⟩) 2 2]:List Value).toArray 134 (0,0)):=by rw[hws];simp[World.setCell,Array.getElem?_modify,hx4]
 rw[←hws]
 have hz4:wk.heap.size≤w4.heap.size:=HG4.size
 have hbs:Below w.heap.size w4 ws:=⟨hk.os,hk.tape,hk.output,hk.size,fun k h=>hk.block k (by omega) (by simp;omega)⟩
 have hba:Below ws.heap.size ws (ws.alloc (.cells #[.int .i64 z0,.int .i64 z1,.int .i64 z2,.int .i64 z3,.string z4,.slice z5 m5 d5,.slice z6 m6 d6,.int .i64 y0,.int .i64 y1,.int .i64 y2,.int .i64 y3,.string y4,.slice y5 n5 c5,.slice y6 n6 c6] 134)):=(Below.refl _ _).alloc (Nat.le_refl _) _
 have hy:TrIs ws (fun b=>w.heap.size+1≤b∧b≠X) y [.int .i64 z0,.int .i64 z1,.int .i64 z2,.int .i64 z3,.string z4,.slice z5 m5 d5,.slice z6 m6 d6]:=(HTk.keeps (w':=w4) ⟨HG4.size,fun b hb hl=>HG4.block b hl (by have:=hb.1;simp;omega)⟩).keeps (Keeps.of_grown hk fun b hb=>by have:=hb.2;simp;exact this)
 have hz:TrIs ws (fun b=>w.heap.size+1≤b∧b≠X) z [.int .i64 y0,.int .i64 y1,.int .i64 y2,.int .i64 y3,.string y4,.slice y5 n5 c5,.slice y6 n6 c6]:=(TrIs.mono HX4 fun b (hb:wk.heap.size≤b) _=>⟨by omega,by omega⟩).keeps (Keeps.of_grown hk fun b hb=>by have:=hb.2;simp;exact this)
 have ho:=opTwo (t:=t) ht hy hz (by constructor<;>omega) 134
 refine⟨(H4.keeps hbs hrl).keeps hba (by omega),grown_below (((Fr.of_grown (grown_trans (grown_drew HGk) HG4) (Nat.le_refl _)).trans (Fr.of_below hbs)).grown) hba,?_,(hba.block _ (by omega)).trans hwx,hXb,?_,heq⟩
 ·rw[hba.block _ (by omega),hk.block _ (by omega) (by simp;omega),HG4.block _ (show w.heap.size<wk.heap.size by omega) (by simp;omega)];exact HRk
 ·rw[hsz] at ho;exact ho
end Go.Proofs.YtepkhlpjgnckkaaGreatDoor
