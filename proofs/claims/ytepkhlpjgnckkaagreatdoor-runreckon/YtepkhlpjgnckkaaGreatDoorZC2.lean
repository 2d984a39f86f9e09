/- Contracts of (*reader).expr, call and named, where bound has one. And more of the same. -/
import Derived.Test.YtepkhlpjgnckkaaGreatDoorZC1
namespace Go.Proofs.YtepkhlpjgnckkaaGreatDoor
set_option maxRecDepth 100000
set_option maxHeartbeats 8000000
open Go.RowKit
open Par (Tok Po Tr nx atP isT ba Res)
def ExpC (rb e:Nat)(bl pr:Int)(E:List Tok→Res Tr):Prop:=∀(w:World) (ts:List Tok) (v:Value),Rd w rb e bl pr ts v→Calls Tryz.prog 147 #[.pointer (some ⟨rb,0,none⟩)] w (Post w rb e bl pr (E ts) (VE w.heap.size))
theorem exprC {rb e:Nat}{bl pr:Int}{P:List Tok→Res Tr}(hB:BndC rb e bl pr P 5):ExpC rb e bl pr (Par.bd P 5):=by
 intro w ts v h
 have hrl:=h.lt
 obtain⟨w0,hw0⟩:∃w0,w0=w.alloc (.cells ZE 134):=⟨_,rfl⟩
 have hbel:Below w.heap.size w w0:=by rw[hw0];exact(Below.refl _ _).alloc (Nat.le_refl _) _
 have hs0:w0.heap.size=w.heap.size+1:=by rw[hw0];simp
 have hres:w0.heap[w.heap.size]? =some (.cells ZE 134 (0,0)):=by rw[hw0];exact heap_at_alloc _ _ _ rfl
 have HP:=hB w0 ts v (h.keeps hbel h.lt)
 unfold ZE at hw0
 clear h hB
 go_enter Tryz.func147,Tryz.ntmps147
 go_wp2_with fail
 rw[←hw0]
 refine HP.mono ?_
 rintro x w1 ⟨hg1,⟨a,r,hr,u,v1,rfl,⟨z0,z1,z2,z3,z4,z5,m5,d5,z6,m6,d6,rfl,hx⟩,h1⟩|⟨cc,q,hr,rfl,r,v1,h1⟩⟩
 ·have hres1:w1.heap[w.heap.size]? =some (.cells ZE 134 (0,0)):=(hg1.block _ (by omega) (by simp;omega)).trans hres
  have hn1:=lt_of_block hres1
  unfold ZE at hres1
  obtain⟨⟨q0,q1,q2,q3,q4,q5,q6⟩,p0,p1,p2,p3,p4,p5,p6⟩:=blkE hres1
  have HF:=fin7 (grown_trans (grown_of_below _ hbel) hg1) h1 hrl (by rw[hs0] at hx;exact hx)
  have HFF:Hid _:=HF
  have HR:Hid (Par.bd P 5 ts=.ok a r):=hr
  clear hg1 hx h1 hres1 HF hr HP hres hbel
  go_wp2
  refine bodyPost_ret (v:=.agg #[.int .i64 z0,.int .i64 z1,.int .i64 z2,.int .i64 z3,.string z4,.slice z5 m5 d5,.slice z6 m6 d6]) (by simp[results,Tryz.results147,go_sem,q0,q1,q2,q3,q4,q5,q6]) rfl ?_
  obtain⟨f1,f2,f3⟩:=HFF.out
  exact⟨f1,.inl ⟨_,_,HR.out,_,_,rfl,⟨_,_,_,_,_,_,_,_,_,_,_,rfl,f3⟩,f2⟩⟩
 ·exact⟨rfl,grown_trans (grown_of_below _ hbel) hg1,.inr ⟨_,_,hr,rfl,_,_,h1⟩⟩
theorem callC {rb e:Nat}{bl pr:Int}{E:List Tok→Res Tr}(hE:ExpC rb e bl pr E){w:World}{ts:List Tok}{v:Value}(h:Rd w rb e bl pr ts v)(q:Nat)(s:ByteArray)(hs:s.size≤maxLen):
 Calls Tryz.prog 148 #[.pointer (some ⟨rb,0,none⟩),.int .i64 (q:Int),.string s] w (Post w rb e bl pr ((Par.encl e [40] [44] [41] 4 E ts).bind fun a r=>.ok (Tr.mk 4 q 0 0 s [] a) r) (VE w.heap.size)):=by
 have hmf:=mkF
 have hrl:=h.lt
 obtain⟨w0,hw0⟩:∃w0,w0=w.alloc (.cells ZE 134):=⟨_,rfl⟩
 have hbel:Below w.heap.size w w0:=by rw[hw0];exact(Below.refl _ _).alloc (Nat.le_refl _) _
 have hs0:w0.heap.size=w.heap.size+1:=by rw[hw0];simp
 have hres:w0.heap[w.heap.size]? =some (.cells ZE 134 (0,0)):=by rw[hw0];exact heap_at_alloc _ _ _ rfl
 have HP:=enclE (h.keeps hbel h.lt) ⟨#[40]⟩ ⟨#[44]⟩ ⟨#[41]⟩ (by decide) (by decide) (by decide) 4 (by omega) (by omega) 147 #[.pointer (some ⟨rb,0,none⟩)] #[] (enters_of Tryz.func147 (by kernel_rfl) rfl) E (fun w' ts' v' _ hr=>hE w' ts' v' hr)
 unfold ZE at hw0
 clear h hE
 go_enter Tryz.func148,Tryz.ntmps148
 go_wp2_with fail
 rw[←hw0]
 refine HP.mono ?_
 rintro x w1 ⟨hg1,⟨a,r,hr,u,v1,rfl,⟨B,hB,ho⟩,h1⟩|⟨cc,q1,hr,rfl,r,v1,h1⟩⟩
 ·obtain⟨ao,c,rfl⟩:=ho.slice
  have hres1:w1.heap[w.heap.size]? =some (.cells ZE 134 (0,0)):=(hg1.block _ (by omega) (by simp;omega)).trans hres
  have hn1:=lt_of_block hres1
  unfold ZE at hres1
  obtain⟨⟨q0,q1,q2,q3,q4,q5,q6⟩,p0,p1,p2,p3,p4,p5,p6⟩:=blkE hres1
  have ht:TrIs w1 (fun b=>w.heap.size+1≤b) (.mk 4 q 0 0 s [] a) [.int .i64 4,.int .i64 (q:Int),.int .i64 0,.int .i64 0,.string s,.slice none 0 0,.slice ao a.length c]:=by
   obtain⟨css,k1,k2,k3⟩:=(ho.row isElT)
   exact .mk hs (labNone _ _) (k1.mono fun b hb _=>by omega) k2 (fun i hi hi'=>TrIs.mono (k3 i hi hi') fun b hb _=>by omega)
  have HF:=fin7 (grown_trans (grown_of_below _ hbel) hg1) h1 hrl ht
  have HFF:Hid _:=HF
  have HR:Hid (((Par.encl e [40] [44] [41] 4 E ts).bind fun a r=>.ok (Tr.mk 4 q 0 0 s [] a) r)=.ok (Tr.mk 4 q 0 0 s [] a) r):=by show _=_;rw[show Par.encl e [40] [44] [41] 4 E ts=.ok a r from hr];rfl
  clear hg1 h1 hres1 HF hr HP hres hbel ho ht
  go_wp2
  refine bodyPost_ret (v:=.agg #[.int .i64 4,.int .i64 (q:Int),.int .i64 0,.int .i64 0,.string s,.slice none 0 0,.slice ao a.length c]) (by simp[results,Tryz.results148,go_sem,q0,q1,q2,q3,q4,q5,q6]) rfl ?_
  obtain⟨f1,f2,f3⟩:=HFF.out
  exact⟨f1,.inl ⟨_,_,HR.out,_,_,rfl,⟨_,_,_,_,_,_,_,_,_,_,_,rfl,f3⟩,f2⟩⟩
 ·refine⟨rfl,grown_trans (grown_of_below _ hbel) hg1,.inr ⟨cc,q1,?_,rfl,_,_,h1⟩⟩
  rw[show Par.encl e [40] [44] [41] 4 E ts=.no cc q1 from hr];rfl
theorem leafT {w:World}{S:Nat→Prop}(k p n t:Int){s:ByteArray}(hs:s.size≤maxLen):TrIs w S (.mk k p n t s [] []) [.int .i64 k,.int .i64 p,.int .i64 n,.int .i64 t,.string s,.slice none 0 0,.slice none 0 0]:=
 .mk hs (labNone _ _) (RowV.none _ _ _ _) rfl (fun i hi=>by simp at hi)
theorem namedC {rb e:Nat}{bl pr:Int}{E:List Tok→Res Tr}(hE:ExpC rb e bl pr E){w:World}{t:Tok}{r:List Tok}{v:Value}(h:Rd w rb e bl pr (t::r) v)(hk:t.1=1):
 Calls Tryz.prog 185 #[.pointer (some ⟨rb,0,none⟩)] w (Post w rb e bl pr (Par.namedR e E (t::r)) (VE w.heap.size)):=by
 have hrl:=h.lt
 obtain⟨w0,hw0⟩:∃w0,w0=w.alloc (.cells ZE 134):=⟨_,rfl⟩
 have hbel:Below w.heap.size w w0:=by rw[hw0];exact(Below.refl _ _).alloc (Nat.le_refl _) _
 have hs0:w0.heap.size=w.heap.size+1:=by rw[hw0];simp
 have hres:w0.heap[w.heap.size]? =some (.cells ZE 134 (0,0)):=by rw[hw0];exact heap_at_alloc _ _ _ rfl
 have H0:Hid (Rd w0 rb e bl pr (t::r) v):=h.keeps hbel h.lt
 have HNM:Hid (Par.nameR e (t::r)=.ok (ba t.2.2) r):=by show _=_;unfold Par.nameR;rw[if_pos (show(nx (t::r)).1=1 from hk)];rfl
 have HEQ:Hid (Par.namedR e E (t::r)=if isT [40] r=true then(Par.encl e [40] [44] [41] 4 E r).bind fun a r2=>.ok (Tr.mk 4 t.2.1 0 0 (ba t.2.2) [] a) r2 else .ok (Tr.mk 2 t.2.1 0 0 (ba t.2.2) [] []) r):=rfl
 unfold ZE at hw0
 clear h hk
 go_enter Tryz.func185,Tryz.ntmps185
 go_wp2_with fail
 rw[←hw0]
 clear hw0
 refine(rAt_any H0.out).mono ?_
 rintro x w0' ⟨rfl,hw0'⟩
 have hw0s:=hw0'.symm;subst hw0s
 rw[show atP e (t::r)=t.2.1 from rfl]
 go_wp2_with fail
 refine(rName_any H0.out).mono ?_
 rintro x w1 ⟨hg1,⟨a,r1,hr,u,v1,rfl,⟨rfl,hz⟩,h1⟩|⟨cc,q,hr,rfl,r1,v1,h1⟩⟩
 ·rw[HNM.out] at hr
  cases hr
  have HG1:Hid (w.grownBy w1 (some rb)):=grown_trans (grown_of_below _ hbel) hg1
  have hz1:=hg1.size
  have hres1:w1.heap[w.heap.size]? =some (.cells ZE 134 (0,0)):=(hg1.block _ (by omega) (by simp;omega)).trans hres
  have H1:Hid (Rd w1 rb e bl pr r v1):=h1
  have HR1:Hid (w1.heap[w.heap.size]? =some (.cells ZE 134 (0,0))):=hres1
  clear hg1 h1 hres1 hres
  go_wp2_with fail
  refine(rIs_any _ H1.out).mono ?_
  rintro x w2 ⟨rfl,hb2⟩
  have HG2:Hid (w.grownBy w2 (some rb)):=grown_below HG1.out hb2
  have hz2:=hb2.size
  have H2:Hid (Rd w2 rb e bl pr r v1):=H1.out.keeps hb2 H1.out.lt
  have hres2:w2.heap[w.heap.size]? =some (.cells ZE 134 (0,0)):=(hb2.block _ (by omega)).trans HR1.out
  clear hb2
  cases hi:isT (⟨#[40]⟩:ByteArray).data.toList r with
  | true=>
   have HC:=callC hE H2.out t.2.1 (ba t.2.2) hz
   have HF1:Hid (Par.namedR e E (t::r)=(Par.encl e [40] [44] [41] 4 E r).bind fun a r2=>.ok (Tr.mk 4 t.2.1 0 0 (ba t.2.2) [] a) r2):=by show _=_;rw[HEQ.out,if_pos hi]
   have HR2:Hid (w2.heap[w.heap.size]? =some (.cells ZE 134 (0,0))):=hres2
   clear hres2 hi
   go_wp2_with fail
   refine HC.mono ?_
   rintro x w3 ⟨hg3,⟨a,r3,hr,u,v3,rfl,⟨z0,z1,z2,z3,z4,z5,m5,d5,z6,m6,d6,rfl,hx⟩,h3⟩|⟨cc,q,hr,rfl,r3,v3,h3⟩⟩
   ·have hres3:w3.heap[w.heap.size]? =some (.cells ZE 134 (0,0)):=(hg3.block _ (by omega) (by simp;omega)).trans HR2.out
    have hn3:=lt_of_block hres3
    unfold ZE at hres3
    obtain⟨⟨q0,q1,q2,q3,q4,q5,q6⟩,p0,p1,p2,p3,p4,p5,p6⟩:=blkE hres3
    have HF:=fin7 (grown_trans HG2.out hg3) h3 hrl (TrIs.mono hx fun b hb _=>by omega)
    have HFF:Hid _:=HF
    have HR:Hid (Par.namedR e E (t::r)=.ok a r3):=by show _=_;rw[HF1.out,hr]
    clear hg3 hx h3 hres3 HF hr HC
    go_wp2
    refine bodyPost_ret (v:=.agg #[.int .i64 z0,.int .i64 z1,.int .i64 z2,.int .i64 z3,.string z4,.slice z5 m5 d5,.slice z6 m6 d6]) (by simp[results,Tryz.results185,go_sem,q0,q1,q2,q3,q4,q5,q6]) rfl ?_
    obtain⟨f1,f2,f3⟩:=HFF.out
    exact⟨f1,.inl ⟨_,_,HR.out,_,_,rfl,⟨_,_,_,_,_,_,_,_,_,_,_,rfl,f3⟩,f2⟩⟩
   ·exact⟨rfl,grown_trans HG2.out hg3,.inr ⟨cc,q,by rw[HF1.out,hr],rfl,_,_,h3⟩⟩
  | false=>
   have HR:Hid (Par.namedR e E (t::r)=.ok (Tr.mk 2 t.2.1 0 0 (ba t.2.2) [] []) r):=by show _=_;rw[HEQ.out,if_neg (by rw[show isT [40] r=false from hi];simp)]
   have hn2:=lt_of_block hres2
   unfold ZE at hres2
   obtain⟨⟨q0,q1,q2,q3,q4,q5,q6⟩,p0,p1,p2,p3,p4,p5,p6⟩:=blkE hres2
   have HF:=fin7 HG2.out H2.out hrl (leafT 2 (t.2.1:Int) 0 0 hz)
   have HFF:Hid _:=HF
   clear hres2 HF hi
   go_wp2
   refine bodyPost_ret (v:=.agg #[.int .i64 2,.int .i64 (t.2.1:Int),.int .i64 0,.int .i64 0,.string (ba t.2.2),.slice none 0 0,.slice none 0 0]) (by simp[results,Tryz.results185,go_sem,q0,q1,q2,q3,q4,q5,q6]) rfl ?_
   obtain⟨f1,f2,f3⟩:=HFF.out
   exact⟨f1,.inl ⟨_,_,HR.out,_,_,rfl,⟨_,_,_,_,_,_,_,_,_,_,_,rfl,f3⟩,f2⟩⟩
 ·rw[HNM.out] at hr;cases hr
theorem heap_set7 {w:World}{X:Nat}{a0 a1 a2 a3 a4 a5 a6 u:Value}{e:TypeId}(h:w.heap[X]? =some (.cells #[a0,a1,a2,a3,a4,a5,a6] e (0,0))):
 (w.setCell ⟨X,6,none⟩ u).heap[X]? =some (.cells #[a0,a1,a2,a3,a4,a5,u] e (0,0))∧(w.setCell ⟨X,5,none⟩ u).heap[X]? =some (.cells #[a0,a1,a2,a3,a4,u,a6] e (0,0)):=by
 constructor<;>simp[World.setCell,Array.getElem?_modify,h]
theorem Rd.own {w:World}{rb e X k:Nat}{bl pr:Int}{ts:List Tok}{v u:Value}(h:Rd w rb e bl pr ts v)(hX:rb<X):Rd (w.setCell ⟨X,k,.none⟩ u) rb e bl pr ts v:=
 h.keeps ((Below.refl X w).setCell (Nat.le_refl _) u) hX
theorem releaseC {rb e:Nat}{bl pr:Int}{E:List Tok→Res Tr}(hE:ExpC rb e bl pr E){w:World}{t:Tok}{r:List Tok}{v:Value}(h:Rd w rb e bl pr (t::r) v)(hk:t.2.2=[114,101,108,101,97,115,101]):
 Calls Tryz.prog 186 #[.pointer (some ⟨rb,0,none⟩)] w (Post w rb e bl pr (Par.relR e E (t::r)) (VE w.heap.size)):=by
 have hrl:=h.lt
 obtain⟨w0,hw0⟩:∃w0,w0=w.alloc (.cells ZE 134):=⟨_,rfl⟩
 have hbel:Below w.heap.size w w0:=by rw[hw0];exact(Below.refl _ _).alloc (Nat.le_refl _) _
 have hs0:w0.heap.size=w.heap.size+1:=by rw[hw0];simp
 have hres:w0.heap[w.heap.size]? =some (.cells ZE 134 (0,0)):=by rw[hw0];exact heap_at_alloc _ _ _ rfl
 have H0:Hid (Rd w0 rb e bl pr (t::r) v):=h.keeps hbel h.lt
 have HM0:Hid (Par.must e (⟨#[114,101,108,101,97,115,101]⟩:ByteArray).data.toList (t::r)=.ok t.2.1 r):=by
  show _=_
  unfold Par.must
  rw[if_pos (by show(t.2.2==_)=true;rw[hk];rfl)];rfl
 have HEQ:Hid (Par.relR e E (t::r)=(Par.must e [40] r).bind fun _ r1=>(E r1).bind fun x r2=>(Par.must e [116,111] r2).bind fun _ r3=>(Par.labelR e r3).bind fun l r4=>(Par.must e [41] r4).bind fun _ r5=>.ok (Tr.mk 5 t.2.1 0 0 (ba []) l [x]) r5):=rfl
 have HE:Hid (ExpC rb e bl pr E):=hE
 unfold ZE at hw0
 clear h hk hE
 go_enter Tryz.func186,Tryz.ntmps186
 go_wp2_with fail
 rw[←hw0]
 clear hw0
 refine(rMust_any _ (by decide) H0.out).mono ?_
 rintro x w1 ⟨hg1,⟨a,r1,hr,u,v1,rfl,rfl,h1⟩|⟨cc,q,hr,rfl,r1,v1,h1⟩⟩
 ·rw[HM0.out] at hr
  cases hr
  have hz1:=hg1.size
  obtain⟨wa,hwa⟩:∃wa,wa=w1.alloc (.cells #[.int .i64 5,.int .i64 (t.2.1:Int),.int .i64 0,.int .i64 0,.string ⟨#[]⟩,.slice none 0 0,.slice none 0 0] 134):=⟨_,rfl⟩
  have hba:Below w1.heap.size w1 wa:=by rw[hwa];exact(Below.refl _ _).alloc (Nat.le_refl _) _
  have hsa:wa.heap.size=w1.heap.size+1:=by rw[hwa];simp
  have hxa:Hid (wa.heap[w1.heap.size]? =some (.cells #[.int .i64 5,.int .i64 (t.2.1:Int),.int .i64 0,.int .i64 0,.string ⟨#[]⟩,.slice none 0 0,.slice none 0 0] 134 (0,0))):=by show _=_;rw[hwa];exact heap_at_alloc _ _ _ rfl
  have hra:Hid (wa.heap[w.heap.size]? =some (.cells ZE 134 (0,0))):=(hba.block _ (by omega)).trans ((hg1.block _ (by omega) (by simp;omega)).trans hres)
  have Ha:Hid (Rd wa rb e bl pr r v1):=h1.keeps hba h1.lt
  have HGa:Hid (w.grownBy wa (some rb)):=grown_below (grown_trans (grown_of_below _ hbel) hg1) hba
  clear hg1 h1 hba hres hbel
  go_wp2_with fail
  rw[←hwa]
  clear hwa
  refine(rMust_any _ (by decide) Ha.out).mono ?_
  rintro x w2 ⟨hg2,⟨a2,r2,hr2,u2,v2,rfl,rfl,h2⟩|⟨c2,q2,hr2,rfl,r2,v2,h2⟩⟩
  ·have HE2:Hid (Par.relR e E (t::r)=(E r2).bind fun x r2=>(Par.must e [116,111] r2).bind fun _ r3=>(Par.labelR e r3).bind fun l r4=>(Par.must e [41] r4).bind fun _ r5=>.ok (Tr.mk 5 t.2.1 0 0 (ba []) l [x]) r5):=by show _=_;rw[HEQ.out,show Par.must e [40] r=.ok a2 r2 from hr2];rfl
   have hz2:=hg2.size
   have hx2:Hid (w2.heap[w1.heap.size]? =_):=(hg2.block _ (by omega) (by simp;omega)).trans hxa.out
   have hr2':Hid (w2.heap[w.heap.size]? =_):=(hg2.block _ (by omega) (by simp;omega)).trans hra.out
   have HG2:Hid (w.grownBy w2 (some rb)):=grown_trans HGa.out hg2
   have HC:=HE.out w2 r2 v2 h2
   clear hg2 h2 hr2
   go_wp2_with fail
   refine HC.mono ?_
   rintro x w3 ⟨hg3,⟨a3,r3,hr3,u3,v3,rfl,⟨z0,z1,z2,z3,z4,z5,m5,d5,z6,m6,d6,rfl,hx3⟩,h3⟩|⟨c3,q3,hr3,rfl,r3,v3,h3⟩⟩
   ·have HE3:Hid (Par.relR e E (t::r)=(Par.must e [116,111] r3).bind fun _ r3=>(Par.labelR e r3).bind fun l r4=>(Par.must e [41] r4).bind fun _ r5=>.ok (Tr.mk 5 t.2.1 0 0 (ba []) l [a3]) r5):=by show _=_;rw[HE2.out,hr3];rfl
    have hz3:=hg3.size
    have hx3b:=(hg3.block w1.heap.size (by omega) (by simp;omega)).trans hx2.out
    have hr3b:Hid (w3.heap[w.heap.size]? =_):=(hg3.block _ (by omega) (by simp;omega)).trans hr2'.out
    have HG3:Hid (w.grownBy w3 (some rb)):=grown_trans HG2.out hg3
    have hXl:=lt_of_block hx3b
    obtain⟨⟨i0,i1,i2,i3,i4,i5,i6⟩,j0,j1,j2,j3,j4,j5,j6⟩:=blkE hx3b
    obtain⟨wb,hwb⟩:∃wb,wb=(w3.setCell ⟨w1.heap.size,6,none⟩ (.slice (some ⟨w3.heap.size,0,none⟩) 1 1)).alloc (.cells #[.int .i64 z0,.int .i64 z1,.int .i64 z2,.int .i64 z3,.string z4,.slice z5 m5 d5,.slice z6 m6 d6] 134):=⟨_,rfl⟩
    have hkb:w3.grownBy (w3.setCell ⟨w1.heap.size,6,none⟩ (.slice (some ⟨w3.heap.size,0,none⟩) 1 1)) (some w1.heap.size):=grown_set (grown_refl _ _) rfl _
    have hsb:wb.heap.size=w3.heap.size+1:=by rw[hwb];simp[World.setCell]
    have hbb:Below w1.heap.size w3 wb:=by rw[hwb];exact((Below.refl w1.heap.size w3).setCell (p:=⟨w1.heap.size,6,none⟩) (Nat.le_refl _) _).alloc (by simp[World.setCell];omega) _
    have hxb:Hid (wb.heap[w1.heap.size]? =some (.cells #[.int .i64 5,.int .i64 (t.2.1:Int),.int .i64 0,.int .i64 0,.string ⟨#[]⟩,.slice none 0 0,.slice (some ⟨w3.heap.size,0,none⟩) 1 1] 134 (0,0))):=by show _=_;rw[hwb];exact heap_past_alloc (heap_set7 hx3b).1
    have hrb:Hid (wb.heap[w.heap.size]? =some (.cells ZE 134 (0,0))):=(hbb.block _ (by omega)).trans hr3b.out
    have hTs:TrIs (w3.setCell ⟨w1.heap.size,6,none⟩ (.slice (some ⟨w3.heap.size,0,none⟩) 1 1)) (fun b=>w.heap.size+1≤b∧b≠w1.heap.size) a3 (#[.int .i64 z0,.int .i64 z1,.int .i64 z2,.int .i64 z3,.string z4,.slice z5 m5 d5,.slice z6 m6 d6]:Array Value).toList:=(TrIs.mono hx3 fun b hb _=>⟨by omega,by omega⟩).keeps (Keeps.of_grown hkb fun b hb=>by have:=hb.2;simp;exact this)
    have hTb:Hid (TrIs wb (fun b=>w.heap.size+1≤b∧b≠w1.heap.size) a3 (#[.int .i64 z0,.int .i64 z1,.int .i64 z2,.int .i64 z3,.string z4,.slice z5 m5 d5,.slice z6 m6 d6]:Array Value).toList∧RowV wb (fun b=>w.heap.size+1≤b∧b≠w1.heap.size) 7 (.slice (some ⟨w3.heap.size,0,none⟩) 1 1) [(#[.int .i64 z0,.int .i64 z1,.int .i64 z2,.int .i64 z3,.string z4,.slice z5 m5 d5,.slice z6 m6 d6]:Array Value).toList]):=by
     rw[hwb]
     refine⟨hTs.keeps (Keeps.of_below ((Below.refl _ _).alloc (Nat.le_refl _) _)),?_⟩
     have:=rowOne hTs (by constructor<;>(simp[World.setCell];omega)) 134
     simpa[World.setCell] using this
    have Hb:Hid (Rd wb rb e bl pr r3 v3):=h3.keeps hbb (by omega)
    have HGb:Hid (w.grownBy wb (some rb)):=((Fr.of_grown HG3.out (Nat.le_refl _)).trans (Fr.of_below (hbb.mono (by omega)))).grown
    clear hg3 h3 hr3 hx3 hx3b hkb hbb hTs HC
    go_wp2_with fail
    rw[←hwb]
    clear hwb
    refine(rMust_any _ (by decide) Hb.out).mono ?_
    rintro x w4 ⟨hg4,⟨a4,r4,hr4,u4,v4,rfl,rfl,h4⟩|⟨c4,q4,hr4,rfl,r4,v4,h4⟩⟩
    ·have HE4:Hid (Par.relR e E (t::r)=(Par.labelR e r4).bind fun l r4=>(Par.must e [41] r4).bind fun _ r5=>.ok (Tr.mk 5 t.2.1 0 0 (ba []) l [a3]) r5):=by show _=_;rw[HE3.out,show Par.must e [116,111] r3=.ok a4 r4 from hr4];rfl
     have hz4:=hg4.size
     have HL:=labelC h4
     have hx4:Hid (w4.heap[w1.heap.size]? =_):=(hg4.block _ (by omega) (by simp;omega)).trans hxb.out
     have hr4b:Hid (w4.heap[w.heap.size]? =_):=(hg4.block _ (by omega) (by simp;omega)).trans hrb.out
     have HG4:Hid (w.grownBy w4 (some rb)):=grown_trans HGb.out hg4
     have hT4:Hid (TrIs w4 (fun b=>w.heap.size+1≤b∧b≠w1.heap.size) a3 (#[.int .i64 z0,.int .i64 z1,.int .i64 z2,.int .i64 z3,.string z4,.slice z5 m5 d5,.slice z6 m6 d6]:Array Value).toList∧RowV w4 (fun b=>w.heap.size+1≤b∧b≠w1.heap.size) 7 (.slice (some ⟨w3.heap.size,0,none⟩) 1 1) [(#[.int .i64 z0,.int .i64 z1,.int .i64 z2,.int .i64 z3,.string z4,.slice z5 m5 d5,.slice z6 m6 d6]:Array Value).toList]):=⟨hTb.out.1.keeps (Keeps.of_grown hg4 fun b hb=>by have:=hb.1;simp;omega),hTb.out.2.keeps (Keeps.of_grown hg4 fun b hb=>by have:=hb.1;simp;omega)⟩
     clear hg4 h4 hr4
     go_wp2_with fail
     refine HL.mono ?_
     rintro x w5 ⟨hg5,⟨l,r5,hr5,u5,v5,rfl,⟨lo,ln,lc,rfl,hl5⟩,h5⟩|⟨c5,q5,hr5,rfl,r5,v5,h5⟩⟩
     ·have HE5:Hid (Par.relR e E (t::r)=(Par.must e [41] r5).bind fun _ r5=>.ok (Tr.mk 5 t.2.1 0 0 (ba []) l [a3]) r5):=by show _=_;rw[HE4.out,hr5];rfl
      have hz5:=hg5.size
      have hx5:=(hg5.block w1.heap.size (by omega) (by simp;omega)).trans hx4.out
      have hr5b:Hid (w5.heap[w.heap.size]? =_):=(hg5.block _ (by omega) (by simp;omega)).trans hr4b.out
      have HG5:Hid (w.grownBy w5 (some rb)):=grown_trans HG4.out hg5
      have hXl5:=lt_of_block hx5
      obtain⟨⟨i0',i1',i2',i3',i4',i5',i6'⟩,j0',j1',j2',j3',j4',j5',j6'⟩:=blkE hx5
      obtain⟨wc,hwc⟩:∃wc,wc=w5.setCell ⟨w1.heap.size,5,none⟩ (.slice lo ln lc):=⟨_,rfl⟩
      have hkc:w5.grownBy wc (some w1.heap.size):=by rw[hwc];exact grown_set (grown_refl _ _) rfl _
      have hbc:Below w1.heap.size w5 wc:=by rw[hwc];exact(Below.refl w1.heap.size w5).setCell (p:=⟨w1.heap.size,5,none⟩) (Nat.le_refl _) _
      have hzc:=hbc.size
      have hxc:Hid (wc.heap[w1.heap.size]? =some (.cells #[.int .i64 5,.int .i64 (t.2.1:Int),.int .i64 0,.int .i64 0,.string ⟨#[]⟩,.slice lo ln lc,.slice (some ⟨w3.heap.size,0,none⟩) 1 1] 134 (0,0))):=by show _=_;rw[hwc];exact(heap_set7 hx5).2
      have hrc:Hid (wc.heap[w.heap.size]? =some (.cells ZE 134 (0,0))):=(hbc.block _ (by omega)).trans hr5b.out
      have k5:Keeps (fun b=>w.heap.size+1≤b∧b≠w1.heap.size) w4 w5:=Keeps.of_grown hg5 fun b hb=>by have:=hb.1;simp;omega
      have kc:Keeps (fun b=>w.heap.size+1≤b∧b≠w1.heap.size) w5 wc:=Keeps.of_grown hkc fun b hb=>by have:=hb.2;simp;exact this
      have hTc:Hid (TrIs wc (fun b=>w.heap.size+1≤b) (.mk 5 t.2.1 0 0 (ba []) l [a3]) (#[.int .i64 5,.int .i64 (t.2.1:Int),.int .i64 0,.int .i64 0,.string ⟨#[]⟩,.slice lo ln lc,.slice (some ⟨w3.heap.size,0,none⟩) 1 1]:Array Value).toList):=by
       have m1:=((hT4.out.1.keeps k5).keeps kc).mono (S':=fun b=>w.heap.size+1≤b) fun b hb _=>hb.1
       have m2:=((hT4.out.2.keeps k5).keeps kc).mono (S':=fun b=>w.heap.size+1≤b) fun b hb _=>hb.1
       have m3:LabV wc (fun b=>w.heap.size+1≤b) (.slice lo ln lc) l:=(hl5.keeps (Keeps.of_grown hkc fun b hb=>by simp;omega)).mono fun b hb _=>by omega
       refine .mk (by rw[ba_size];simp[maxLen]) m3 m2 rfl (fun i hi hi'=> ?_)
       match i,hi with
       | 0,_=>exact m1
      have Hc:Hid (Rd wc rb e bl pr r5 v5):=h5.keeps hbc (by omega)
      have HGc:Hid (w.grownBy wc (some rb)):=((Fr.of_grown HG5.out (Nat.le_refl _)).trans (Fr.of_below (hbc.mono (by omega)))).grown
      clear hg5 h5 hr5 hl5 hx5 hkc hbc k5 kc HL
      go_wp2_with fail
      rw[←hwc]
      clear hwc
      refine(rMust_any _ (by decide) Hc.out).mono ?_
      rintro x w6 ⟨hg6,⟨a6,r6,hr6,u6,v6,rfl,rfl,h6⟩|⟨c6,q6',hr6,rfl,r6,v6,h6⟩⟩
      ·have HR:Hid (Par.relR e E (t::r)=.ok (Tr.mk 5 t.2.1 0 0 (ba []) l [a3]) r6):=by show _=_;rw[HE5.out,show Par.must e [41] r5=.ok a6 r6 from hr6];rfl
       have hz6:=hg6.size
       have hx6:=(hg6.block w1.heap.size (by omega) (by simp;omega)).trans hxc.out
       have hr6b:=(hg6.block w.heap.size (by omega) (by simp;omega)).trans hrc.out
       have hn6:=lt_of_block hr6b
       unfold ZE at hr6b
       obtain⟨⟨q0,q1,q2,q3,q4,q5,q6⟩,p0,p1,p2,p3,p4,p5,p6⟩:=blkE hr6b
       obtain⟨⟨o0,o1,o2,o3,o4,o5,o6⟩,_⟩:=blkE hx6
       have HF:=fin7 (grown_trans HGc.out hg6) h6 hrl (hTc.out.keeps (Keeps.of_grown hg6 fun b hb=>by simp;omega))
       have HFF:Hid _:=HF
       clear hg6 h6 hr6 hx6 hr6b HF i0 i1 i2 i3 i4 i5 i6 j0 j1 j2 j3 j4 j5 j6 i0' i1' i2' i3' i4' i5' i6' j0' j1' j2' j3' j4' j5' j6'
       go_wp2
       refine bodyPost_ret (v:=.agg #[.int .i64 5,.int .i64 (t.2.1:Int),.int .i64 0,.int .i64 0,.string ⟨#[]⟩,.slice lo ln lc,.slice (some ⟨w3.heap.size,0,none⟩) 1 1]) (by simp[results,Tryz.results186,go_sem,q0,q1,q2,q3,q4,q5,q6]) rfl ?_
       obtain⟨f1,f2,f3⟩:=HFF.out
       exact⟨f1,.inl ⟨_,_,HR.out,_,_,rfl,⟨_,_,_,_,_,_,_,_,_,_,_,rfl,f3⟩,f2⟩⟩
      ·exact⟨rfl,grown_trans HGc.out hg6,.inr ⟨c6,q6',by rw[HE5.out,show Par.must e [41] r5=.no c6 q6' from hr6];rfl,rfl,_,_,h6⟩⟩
     ·exact⟨rfl,grown_trans HG4.out hg5,.inr ⟨c5,q5,by rw[HE4.out,hr5];rfl,rfl,_,_,h5⟩⟩
    ·exact⟨rfl,grown_trans HGb.out hg4,.inr ⟨c4,q4,by rw[HE3.out,show Par.must e [116,111] r3=.no c4 q4 from hr4];rfl,rfl,_,_,h4⟩⟩
   ·exact⟨rfl,grown_trans HG2.out hg3,.inr ⟨c3,q3,by rw[HE2.out,hr3];rfl,rfl,_,_,h3⟩⟩
  ·exact⟨rfl,grown_trans HGa.out hg2,.inr ⟨c2,q2,by rw[HEQ.out,show Par.must e [40] r=.no c2 q2 from hr2];rfl,rfl,_,_,h2⟩⟩
 ·rw[HM0.out] at hr;cases hr
theorem prim_full {rb e:Nat}{bl:Int}:PrimC rb e bl 12 (Par.prim e 0):=by
 intro w ts v h
 have hrl:=h.lt
 obtain⟨w0,hw0⟩:∃w0,w0=w.alloc (.cells ZE 134):=⟨_,rfl⟩
 have hbel:Below w.heap.size w w0:=by rw[hw0];exact(Below.refl _ _).alloc (Nat.le_refl _) _
 have H0:Hid (Rd w0 rb e bl 12 ts v):=h.keeps hbel h.lt
 have HBE:Hid (Below w.heap.size w w0):=hbel
 unfold ZE at hw0
 clear h hbel
 go_enter_defers Tryz.func176,Tryz.ntmps176
 go_wp2_with fail
 rw[←hw0]
 clear hw0
 refine(rIn_many H0.out).mono ?_
 rintro x w1 ⟨rfl,hb1⟩
 refine⟨grown_below (grown_of_below _ HBE.out) hb1,.inr ⟨_,_,rfl,rfl,_,_,H0.out.keeps hb1 H0.out.lt⟩⟩
def outD (bx:Nat):Deferred:={target:=.fn (.func 144) #[.pointer (some ⟨bx,0,none⟩)],args:=#[]}
theorem door_no {w wz:World}{rb e d bx:Nat}{bl:Int}{r:List Tok}{v:Value}{tm:Array Value}{res:Res Tr}{V:World→Tr→Value→Prop}{c:Int}{q:Nat}(hg:w.grownBy wz (some rb))(h:Rd wz rb e bl ((d+1:Nat):Int) r v)(hb:wz.heap[bx]? =some (.cells #[.pointer (some ⟨rb,3,none⟩)] 185 (0,0)))(hd:d≤12)(hr:res=.no c q):
 Leaves Tryz.prog Tryz.f176 tm (Post w rb e bl d res V) [outD bx] (.panicking [{v:=stopV c q,recovered:=false}]) wz:=by
 refine leaves_cons (f:=144) (args:=#[.pointer (some ⟨bx,0,none⟩)]) (by simp) (by simp[go_sem]) ?_
 refine(rOut (.panicking [{v:=stopV c q,recovered:=false}]) h hb hd).mono ?_
 rintro x u' w'' ⟨rfl,rfl,rfl,hR⟩
 exact⟨grown_set hg rfl _,.inr ⟨c,q,hr,rfl,_,_,hR⟩⟩
theorem door_ok {w wz:World}{rb e d bx:Nat}{bl:Int}{r:List Tok}{v:Value}{tm:Array Value}{res:Res Tr}{t:Tr}{z0 z1 z2 z3:Int}{z4:ByteArray}{z5:Option Addr}{m5 d5:Nat}{z6:Option Addr}{m6 d6:Nat}(hg:w.grownBy wz (some rb))(hrl:rb<w.heap.size)(h:Rd wz rb e bl ((d+1:Nat):Int) r v)(hb:wz.heap[bx]? =some (.cells #[.pointer (some ⟨rb,3,none⟩)] 185 (0,0)))(hd:d≤12)(hr:res=.ok t r)
 (ht2:tm[2]? =some (.pointer (some ⟨w.heap.size,0,none⟩))) (hn:wz.heap[w.heap.size]? =some (.cells #[.int .i64 z0,.int .i64 z1,.int .i64 z2,.int .i64 z3,.string z4,.slice z5 m5 d5,.slice z6 m6 d6] 134 (0,0))) (ht:TrIs wz (fun b=>w.heap.size≤b) t [.int .i64 z0,.int .i64 z1,.int .i64 z2,.int .i64 z3,.string z4,.slice z5 m5 d5,.slice z6 m6 d6]):
 Leaves Tryz.prog Tryz.f176 tm (Post w rb e bl d res (VE w.heap.size)) [outD bx] .returning wz:=by
 refine leaves_cons (f:=144) (args:=#[.pointer (some ⟨bx,0,none⟩)]) (by simp) (by simp[go_sem]) ?_
 refine(rOut .returning h hb hd).mono ?_
 rintro x u' w'' ⟨rfl,rfl,hw,hR⟩
 have hn':w''.heap[w.heap.size]? =some (.cells #[.int .i64 z0,.int .i64 z1,.int .i64 z2,.int .i64 z3,.string z4,.slice z5 m5 d5,.slice z6 m6 d6] 134 (0,0)):=by
  rw[hw,Below.heap_setCell _ _ _ _ (by show w.heap.size≠rb;omega)];exact hn
 obtain⟨⟨q0,q1,q2,q3,q4,q5,q6⟩,_⟩:=blkE hn'
 refine⟨.agg #[.int .i64 z0,.int .i64 z1,.int .i64 z2,.int .i64 z3,.string z4,.slice z5 m5 d5,.slice z6 m6 d6],by simp[results,Tryz.results176,go_sem,ht2,q0,q1,q2,q3,q4,q5,q6],by rw[hw];exact grown_set hg rfl _,.inl ⟨t,r,hr,_,_,rfl,⟨_,_,_,_,_,_,_,_,_,_,_,rfl,?_⟩,hR⟩⟩
 exact ht.keeps (by rw[hw];exact Keeps.of_grown (grown_set (grown_refl _ _) rfl _) fun b hb=>by simp;omega)
theorem fin7n {wz:World}{n:Nat}{a0 a1 a2 a3 a4 a5 a6 y0 y1 y2 y3 y4 y5 y6:Value}{e:TypeId}(h:wz.heap[n]? =some (.cells #[a0,a1,a2,a3,a4,a5,a6] e (0,0))):
 (((((((wz.setCell ⟨n,0,none⟩ y0).setCell ⟨n,1,none⟩ y1).setCell ⟨n,2,none⟩ y2).setCell ⟨n,3,none⟩ y3).setCell ⟨n,4,none⟩ y4).setCell ⟨n,5,none⟩ y5).setCell ⟨n,6,none⟩ y6).heap[n]? =some (.cells #[y0,y1,y2,y3,y4,y5,y6] e (0,0))∧∀b,b≠n→(((((((wz.setCell ⟨n,0,none⟩ y0).setCell ⟨n,1,none⟩ y1).setCell ⟨n,2,none⟩ y2).setCell ⟨n,3,none⟩ y3).setCell ⟨n,4,none⟩ y4).setCell ⟨n,5,none⟩ y5).setCell ⟨n,6,none⟩ y6).heap[b]? =wz.heap[b]? :=by
 refine⟨by simp[World.setCell,Array.getElem?_modify,h],fun b hb=> ?_⟩
 iterate 7 rw[Below.heap_setCell _ _ _ _ hb]
theorem door7 {w wz:World}{rb e d bx:Nat}{bl:Int}{r:List Tok}{v:Value}{tm:Array Value}{res:Res Tr}{t:Tr}{z0 z1 z2 z3:Int}{z4:ByteArray}{z5:Option Addr}{m5 d5:Nat}{z6:Option Addr}{m6 d6:Nat}(hg:w.grownBy wz (some rb))(hrl:rb<w.heap.size)(h:Rd wz rb e bl ((d+1:Nat):Int) r v)(hb:wz.heap[bx]? =some (.cells #[.pointer (some ⟨rb,3,none⟩)] 185 (0,0)))(hbx:bx≠w.heap.size)(hd:d≤12)(hr:res=.ok t r)
 (ht2:tm[2]? =some (.pointer (some ⟨w.heap.size,0,none⟩))) (hn:wz.heap[w.heap.size]? =some (.cells ZE 134 (0,0))) (ht:TrIs wz (fun b=>w.heap.size+1≤b) t [.int .i64 z0,.int .i64 z1,.int .i64 z2,.int .i64 z3,.string z4,.slice z5 m5 d5,.slice z6 m6 d6]):
 Leaves Tryz.prog Tryz.f176 tm (Post w rb e bl d res (VE w.heap.size)) [outD bx] .returning (((((((wz.setCell ⟨w.heap.size,0,none⟩ (.int .i64 z0)).setCell ⟨w.heap.size,1,none⟩ (.int .i64 z1)).setCell ⟨w.heap.size,2,none⟩ (.int .i64 z2)).setCell ⟨w.heap.size,3,none⟩ (.int .i64 z3)).setCell ⟨w.heap.size,4,none⟩ (.string z4)).setCell ⟨w.heap.size,5,none⟩ (.slice z5 m5 d5)).setCell ⟨w.heap.size,6,none⟩ (.slice z6 m6 d6)):=by
 obtain⟨f1,f2,f3⟩:=fin7 hg h hrl ht
 unfold ZE at hn
 obtain⟨n1,n2⟩:=fin7n (y0:=.int .i64 z0) (y1:=.int .i64 z1) (y2:=.int .i64 z2) (y3:=.int .i64 z3) (y4:=.string z4) (y5:=.slice z5 m5 d5) (y6:=.slice z6 m6 d6) hn
 exact door_ok f1 hrl f2 ((n2 bx hbx).trans hb) hd hr ht2 n1 f3
theorem door1 {w w4:World}{rb e d bx:Nat}{bl:Int}{t:Tok}{r4:List Tok}{v4:Value}{tm:Array Value}{res:Res Tr}{a:Tr}{z0 z1 z2 z3:Int}{z4:ByteArray}{z5:Option Addr}{m5 d5:Nat}{z6:Option Addr}{m6 d6:Nat}(hg:w.grownBy w4 (some rb))(hrl:rb<w.heap.size)(h:Rd w4 rb e bl ((d+1:Nat):Int) r4 v4)(hb:w4.heap[bx]? =some (.cells #[.pointer (some ⟨rb,3,none⟩)] 185 (0,0)))(hbx:bx≠w.heap.size)(hd:d≤12)(hr:res=.ok (Par.opT t [a]) r4)(ht:t.2.2.length≤4000)
 (ht2:tm[2]? =some (.pointer (some ⟨w.heap.size,0,none⟩))) (hn:w4.heap[w.heap.size]? =some (.cells ZE 134 (0,0))) (hx:TrIs w4 (fun b=>w.heap.size+1≤b) a (#[.int .i64 z0,.int .i64 z1,.int .i64 z2,.int .i64 z3,.string z4,.slice z5 m5 d5,.slice z6 m6 d6]:Array Value).toList):
 Leaves Tryz.prog Tryz.f176 tm (Post w rb e bl d res (VE w.heap.size)) [outD bx] .returning ((((((((w4.setCell ⟨w.heap.size,0,none⟩ (.int .i64 3)).setCell ⟨w.heap.size,1,none⟩ (.int .i64 (t.2.1:Int))).setCell ⟨w.heap.size,2,none⟩ (.int .i64 0)).setCell ⟨w.heap.size,3,none⟩ (.int .i64 0)).setCell ⟨w.heap.size,4,none⟩ (.string (ba t.2.2))).setCell ⟨w.heap.size,5,none⟩ (.slice none 0 0)).setCell ⟨w.heap.size,6,none⟩ (.slice (some ⟨w4.heap.size,0,none⟩) 1 1)).alloc (.cells #[.int .i64 z0,.int .i64 z1,.int .i64 z2,.int .i64 z3,.string z4,.slice z5 m5 d5,.slice z6 m6 d6] 134)):=by
 obtain⟨ws,hws⟩:∃ws,ws=(((((((w4.setCell ⟨w.heap.size,0,none⟩ (.int .i64 3)).setCell ⟨w.heap.size,1,none⟩ (.int .i64 (t.2.1:Int))).setCell ⟨w.heap.size,2,none⟩ (.int .i64 0)).setCell ⟨w.heap.size,3,none⟩ (.int .i64 0)).setCell ⟨w.heap.size,4,none⟩ (.string (ba t.2.2))).setCell ⟨w.heap.size,5,none⟩ (.slice none 0 0)).setCell ⟨w.heap.size,6,none⟩ (.slice (some ⟨w4.heap.size,0,none⟩) 1 1)):=⟨_,rfl⟩
 have hk:w4.grownBy ws (some w.heap.size):=by rw[hws];exact keptE
 have hsz:ws.heap.size=w4.heap.size:=by rw[hws];simp[World.setCell]
 have hl4:=lt_of_block hn
 unfold ZE at hn
 have hn1:ws.heap[w.heap.size]? =some (.cells #[.int .i64 3,.int .i64 (t.2.1:Int),.int .i64 0,.int .i64 0,.string (ba t.2.2),.slice none 0 0,.slice (some ⟨w4.heap.size,0,none⟩) 1 1] 134 (0,0)):=by rw[hws];exact(fin7n hn).1
 rw[←hws]
 have hbs:Below w.heap.size w4 ws:=⟨hk.os,hk.tape,hk.output,hk.size,fun k h=>hk.block k (by omega) (by simp;omega)⟩
 have hba:Below ws.heap.size ws (ws.alloc (.cells #[.int .i64 z0,.int .i64 z1,.int .i64 z2,.int .i64 z3,.string z4,.slice z5 m5 d5,.slice z6 m6 d6] 134)):=(Below.refl _ _).alloc (Nat.le_refl _) _
 have hxs:TrIs ws (fun b=>w.heap.size≤b) a (#[.int .i64 z0,.int .i64 z1,.int .i64 z2,.int .i64 z3,.string z4,.slice z5 m5 d5,.slice z6 m6 d6]:Array Value).toList:=(hx.keeps (Keeps.of_grown hk fun b hb=>by simp;omega)).mono fun b hb _=>by omega
 have ho:=opOne (t:=t) ht hxs (by omega) 134
 rw[hsz] at ho
 exact door_ok (grown_below (((Fr.of_grown hg (Nat.le_refl _)).trans (Fr.of_below hbs)).grown) hba) hrl ((h.keeps hbs hrl).keeps hba (by omega)) (heap_past_alloc ((hk.block _ (lt_of_block hb) (by simp;exact hbx)).trans hb)) hd hr ht2 (heap_past_alloc hn1) ho
open Par (Tok Po Tr nx atP isT ba Res Stm Prm Chn Prc Prg)
theorem blkT {w:World}{b:Nat}{x0 x1 x2 x3 x4 x5 x6 x7 x8 x9 x10 x11 x12 x13 x14:Value}{e:TypeId}(h:w.heap[b]? =some (.cells #[x0,x1,x2,x3,x4,x5,x6,x7,x8,x9,x10,x11,x12,x13,x14] e (0,0))):(w.cell? ⟨b,0,none⟩=some x0∧w.cell? ⟨b,1,none⟩=some x1∧w.cell? ⟨b,2,none⟩=some x2∧w.cell? ⟨b,3,none⟩=some x3∧w.cell? ⟨b,4,none⟩=some x4∧w.cell? ⟨b,5,none⟩=some x5∧w.cell? ⟨b,6,none⟩=some x6∧w.cell? ⟨b,7,none⟩=some x7∧w.cell? ⟨b,8,none⟩=some x8∧w.cell? ⟨b,9,none⟩=some x9∧w.cell? ⟨b,10,none⟩=some x10∧w.cell? ⟨b,11,none⟩=some x11∧w.cell? ⟨b,12,none⟩=some x12∧w.cell? ⟨b,13,none⟩=some x13∧w.cell? ⟨b,14,none⟩=some x14)∧∀i,w.frozen? ⟨b,i,none⟩=false:=by
 refine⟨⟨?_,?_,?_,?_,?_,?_,?_,?_,?_,?_,?_,?_,?_,?_,?_⟩,fun i=> ?_⟩<;>simp[World.cell?,World.frozen?,h]
structure GoF {α:Type}(B:Nat)(w wr:World)(rb e:Nat)(bl pr:Int)(res:Res α)(K:List Tok→Res α)(ts:List Tok)(v:Value):Prop where
 fr:Fr B rb w wr
 rd:Rd wr rb e bl pr ts v
 eq:res=K ts
 lo:rb<B
theorem GoF.later {α:Type}{B:Nat}{w wr w':World}{rb e:Nat}{bl pr:Int}{res:Res α}{K:List Tok→Res α}{ts:List Tok}{v:Value}(h:GoF B w wr rb e bl pr res K ts v)(hb:Below B wr w'):GoF B w w' rb e bl pr res K ts v:=
 ⟨h.fr.trans (Fr.of_below hb),h.rd.keeps hb h.lo,h.eq,h.lo⟩
theorem goF_of {α β:Type}{B:Nat}{w wr w':World}{rb e:Nat}{bl pr:Int}{res:Res β}{P:List Tok→Res α}{F:α→List Tok→Res β}{ts:List Tok}{v:Value}{V:World→α→Value→Prop}{x:Ending}(h:GoF B w wr rb e bl pr res (fun ts=>(P ts).bind F) ts v)(hB:B≤wr.heap.size)(hp:Post wr rb e bl pr (P ts) V x w'):
 (∃a r u v',x=.returned u∧V w' a u∧wr.grownBy w' (some rb)∧GoF B w w' rb e bl pr res (F a) r v')∨(Fr B rb w w'∧∃c q,res=.no c q∧x=goneE c q∧∃r v',Rd w' rb e bl pr r v'):=by
 obtain⟨hg,⟨a,r,hr,u,v',hx,hV,hrd⟩|⟨c,q,hr,hx,r,v',hrd⟩⟩:=hp
 ·exact .inl ⟨a,r,u,v',hx,hV,hg,h.fr.trans (Fr.of_grown hg hB),hrd,by rw[h.eq,hr];rfl,h.lo⟩
 ·exact .inr ⟨h.fr.trans (Fr.of_grown hg hB),c,q,by rw[h.eq,hr];rfl,hx,r,v',hrd⟩
def Par.letA (e:Nat)(E:List Tok→Res Tr)(ts:List Tok):Res (ByteArray×(Bool×List Po)×Tr):=(Par.nameR e ts).bind fun s r1=>(Par.bearsR e r1).bind fun d r2=>(Par.must e [61] r2).bind fun _ r3=>(E r3).bind fun x r4=>.ok (s,d,x) r4
def LetV (sb:Nat)(p:Int)(w':World)(a:ByteArray×(Bool×List Po)×Tr)(u:Value):Prop:=u=.tuple #[]∧∃(lo:Option Addr) (ln lc:Nat) (z0 z1 z2 z3:Int) (z4:ByteArray) (z5:Option Addr) (m5 d5:Nat) (z6:Option Addr) (m6 d6:Nat),w'.heap[sb]? =some (.cells #[.int .i64 1,.int .i64 p,.string a.1,.string ⟨#[]⟩,.bool a.2.1.1,.slice lo ln lc,.int .i64 z0,.int .i64 z1,.int .i64 z2,.int .i64 z3,.string z4,.slice z5 m5 d5,.slice z6 m6 d6,.slice none 0 0,.slice none 0 0] 136 (0,0))∧a.1.size≤maxLen∧LabV w' (fun b=>sb<b) (.slice lo ln lc) a.2.1.2∧TrIs w' (fun b=>sb<b) a.2.2 [.int .i64 z0,.int .i64 z1,.int .i64 z2,.int .i64 z3,.string z4,.slice z5 m5 d5,.slice z6 m6 d6]
theorem letC {w:World}{rb e sb:Nat}{bl pr p:Int}{t:Tok}{r0:List Tok}{v:Value}{E:List Tok→Res Tr}(hE:ExpC rb e bl pr E)(h:Rd w rb e bl pr (t::r0) v)(hsb:w.heap[sb]? =some (.cells #[.int .i64 0,.int .i64 p,.string ⟨#[]⟩,.string ⟨#[]⟩,.bool false,.slice none 0 0,.int .i64 0,.int .i64 0,.int .i64 0,.int .i64 0,.string ⟨#[]⟩,.slice none 0 0,.slice none 0 0,.slice none 0 0,.slice none 0 0] 136 (0,0)))(hlo:rb<sb):
 Calls Tryz.prog 146 #[.pointer (some ⟨rb,0,none⟩),.pointer (some ⟨sb,0,none⟩)] w (PostB sb w rb e bl pr (Par.letA e E r0) (LetV sb p)):=by
 obtain⟨res,hres⟩:∃res,res=Par.letA e E r0:=⟨_,rfl⟩
 rw[←hres]
 have HE:Hid (ExpC rb e bl pr E):=hE
 have HRS:Hid (res=Par.letA e E r0):=hres
 have HS:Hid (w.heap[sb]? =some (.cells #[.int .i64 0,.int .i64 p,.string ⟨#[]⟩,.string ⟨#[]⟩,.bool false,.slice none 0 0,.int .i64 0,.int .i64 0,.int .i64 0,.int .i64 0,.string ⟨#[]⟩,.slice none 0 0,.slice none 0 0,.slice none 0 0,.slice none 0 0] 136 (0,0))):=hsb
 have HTK:=rTake_any h
 have hls:sb<w.heap.size:=lt_of_block hsb
 clear h hres hsb hE
 go_enter Tryz.func146,Tryz.ntmps146
 go_wp2_with fail
 refine HTK.mono ?_
 rintro x w1 ⟨rfl,hq1,v1,hrd1⟩
 have HG1:Hid (GoF sb w w1 rb e bl pr res (Par.letA e E) r0 v1):=⟨Fr.of_grown hq1 (by omega),hrd1,HRS.out,hlo⟩
 have HS1:Hid (w1.heap[sb]? =some (.cells #[.int .i64 0,.int .i64 p,.string ⟨#[]⟩,.string ⟨#[]⟩,.bool false,.slice none 0 0,.int .i64 0,.int .i64 0,.int .i64 0,.int .i64 0,.string ⟨#[]⟩,.slice none 0 0,.slice none 0 0,.slice none 0 0,.slice none 0 0] 136 (0,0))):=go_blk hq1 HS.out (by omega)
 have hl1:sb<w1.heap.size:=lt_of_block HS1.out
 clear hq1 hrd1 HTK
 go_wp2_with fail
 refine(rName_any HG1.out.rd).mono ?_
 intro x w2 hp
 rcases goF_of HG1.out (by omega) hp with⟨s,r2,u,v2,rfl,⟨rfl,hsz⟩,hq2,hg2⟩|⟨hgr,c,q,hr,rfl,r,v',hrd⟩
 rotate_left
 ·exact⟨rfl,hgr,.inr ⟨c,q,hr,rfl,r,v',hrd⟩⟩
 have hs2:=go_blk hq2 HS1.out (by omega)
 have HSZ:Hid (s.size≤maxLen):=hsz
 obtain⟨⟨a0,a1,a2,a3,a4,a5,a6,a7,a8,a9,a10,a11,a12,a13,a14⟩,hz⟩:=blkT hs2
 have hz0:=hz 0
 have hz2:=hz 2
 have l2:=lt_of_block hs2
 obtain⟨w3,hw3⟩:∃w3,w3=(w2.setCell ⟨sb,0,none⟩ (.int .i64 1)).setCell ⟨sb,2,none⟩ (.string s):=⟨_,rfl⟩
 have hb3:Below sb w2 w3:=by rw[hw3];exact((Below.refl _ _).setCell (by simp) _).setCell (by simp) _
 have HG3:Hid (GoF sb w w3 rb e bl pr res (fun r1=>(Par.bearsR e r1).bind fun d r2=>(Par.must e [61] r2).bind fun _ r3=>(E r3).bind fun x r4=>.ok (s,d,x) r4) r2 v2):=hg2.later hb3
 have HS3:Hid (w3.heap[sb]? =some (.cells #[.int .i64 1,.int .i64 p,.string s,.string ⟨#[]⟩,.bool false,.slice none 0 0,.int .i64 0,.int .i64 0,.int .i64 0,.int .i64 0,.string ⟨#[]⟩,.slice none 0 0,.slice none 0 0,.slice none 0 0,.slice none 0 0] 136 (0,0))):=by show _=_;rw[hw3];simp[World.setCell,Array.getElem?_modify,hs2]
 have hl3:sb<w3.heap.size:=lt_of_block HS3.out
 have HIS:=rIs_any ⟨#[123]⟩ HG3.out.rd
 clear hp hq2 hg2 hs2 hz hsz hb3
 go_wp2_with fail
 rw[←hw3]
 clear hw3 a0 a1 a2 a3 a4 a5 a6 a7 a8 a9 a10 a11 a12 a13 a14 hz0 hz2
 refine HIS.mono ?_
 rintro x w4 ⟨rfl,hb4⟩
 have HG4:Hid (GoF sb w w4 rb e bl pr res (fun r1=>(Par.bearsR e r1).bind fun d r2=>(Par.must e [61] r2).bind fun _ r3=>(E r3).bind fun x r4=>.ok (s,d,x) r4) r2 v2):=HG3.out.later (hb4.mono (by omega))
 have HS4:Hid (w4.heap[sb]? =some (.cells #[.int .i64 1,.int .i64 p,.string s,.string ⟨#[]⟩,.bool false,.slice none 0 0,.int .i64 0,.int .i64 0,.int .i64 0,.int .i64 0,.string ⟨#[]⟩,.slice none 0 0,.slice none 0 0,.slice none 0 0,.slice none 0 0] 136 (0,0))):=(hb4.block _ hl3).trans HS3.out
 have hl4:sb<w4.heap.size:=lt_of_block HS4.out
 clear hb4 HIS
 cases hi:isT (⟨#[123]⟩:ByteArray).data.toList r2 with
 | true=>
  have HG5:Hid (GoF sb w w4 rb e bl pr res (fun r1=>(Par.labelR e r1).bind fun l r2=>(Par.must e [61] r2).bind fun _ r3=>(E r3).bind fun x r4=>.ok (s,(true,l),x) r4) r2 v2):=by
   refine⟨HG4.out.fr,HG4.out.rd,?_,hlo⟩
   rw[HG4.out.eq]
   have h9:Par.bearsR e r2=(Par.labelR e r2).bind fun l r=>.ok (true,l) r:=by unfold Par.bearsR;exact if_pos hi
   rw[h9]
   cases Par.labelR e r2<;>rfl
  clear hi
  go_wp2_with fail
  refine(labelC HG5.out.rd).mono ?_
  intro x w5 hp
  rcases goF_of HG5.out (by omega) hp with⟨l,r5,u,v5,rfl,⟨lo,ln,lc,rfl,hlab⟩,hq5,hg5⟩|⟨hgr,c,q,hr,rfl,r,v',hrd⟩
  rotate_left
  ·exact⟨rfl,hgr,.inr ⟨c,q,hr,rfl,r,v',hrd⟩⟩
  have hs5:=go_blk hq5 HS4.out (by omega)
  obtain⟨⟨a0,a1,a2,a3,a4,a5,a6,a7,a8,a9,a10,a11,a12,a13,a14⟩,hz⟩:=blkT hs5
  have hz4:=hz 4
  have hz5:=hz 5
  have l5:=lt_of_block hs5
  obtain⟨w6,hw6⟩:∃w6,w6=(w5.setCell ⟨sb,4,none⟩ (.bool true)).setCell ⟨sb,5,none⟩ (.slice lo ln lc):=⟨_,rfl⟩
  have hb6:Below sb w5 w6:=by rw[hw6];exact((Below.refl _ _).setCell (by simp) _).setCell (by simp) _
  have hk6:∀k,k≠sb→w6.heap[k]? =w5.heap[k]? :=fun k hk=>by rw[hw6,Below.heap_setCell _ _ _ _ hk,Below.heap_setCell _ _ _ _ hk]
  have HLB:Hid (LabV w6 (fun b=>sb<b) (.slice lo ln lc) l):=(hlab.mono (S':=fun b=>sb<b) fun b hb _=>by omega).keeps ⟨hb6.size,fun b hb _=>hk6 b (by omega)⟩
  have HG6:Hid _:=hg5.later hb6
  have HS6:Hid (w6.heap[sb]? =some (.cells #[.int .i64 1,.int .i64 p,.string s,.string ⟨#[]⟩,.bool true,.slice lo ln lc,.int .i64 0,.int .i64 0,.int .i64 0,.int .i64 0,.string ⟨#[]⟩,.slice none 0 0,.slice none 0 0,.slice none 0 0,.slice none 0 0] 136 (0,0))):=by show _=_;rw[hw6];simp[World.setCell,Array.getElem?_modify,hs5]
  have hl6:sb<w6.heap.size:=lt_of_block HS6.out
  clear hp hq5 hg5 hs5 hz hb6 hk6 hlab
  go_wp2_with fail
  rw[←hw6]
  clear hw6 a0 a1 a2 a3 a4 a5 a6 a7 a8 a9 a10 a11 a12 a13 a14 hz4 hz5
  refine(rMust_any ⟨#[61]⟩ (by decide) HG6.out.rd).mono ?_
  intro x w7 hp
  rcases goF_of (P:=Par.must e [61]) HG6.out (by omega) hp with⟨a7,r7,u,v7,rfl,rfl,hq7,hg7⟩|⟨hgr,c,q,hr,rfl,r,v',hrd⟩
  rotate_left
  ·exact⟨rfl,hgr,.inr ⟨c,q,hr,rfl,r,v',hrd⟩⟩
  have HG7:Hid _:=hg7
  have HS7:Hid (w7.heap[sb]? =some (.cells #[.int .i64 1,.int .i64 p,.string s,.string ⟨#[]⟩,.bool true,.slice lo ln lc,.int .i64 0,.int .i64 0,.int .i64 0,.int .i64 0,.string ⟨#[]⟩,.slice none 0 0,.slice none 0 0,.slice none 0 0,.slice none 0 0] 136 (0,0))):=go_blk hq7 HS6.out (by omega)
  have HL7:Hid (LabV w7 (fun b=>sb<b) (.slice lo ln lc) l):=HLB.out.keeps (Keeps.of_grown hq7 fun b hb=>by simp;omega)
  have hl7:sb<w7.heap.size:=lt_of_block HS7.out
  clear hp hq7 hg7
  go_wp2_with fail
  refine(HE.out _ _ _ HG7.out.rd).mono ?_
  intro x w8 hp
  rcases goF_of HG7.out (by omega) hp with⟨y,r8,u,v8,rfl,⟨z0,z1,z2,z3,z4,z5,m5,d5,z6,m6,d6,rfl,hy⟩,hq8,hg8⟩|⟨hgr,c,q,hr,rfl,r,v',hrd⟩
  rotate_left
  ·exact⟨rfl,hgr,.inr ⟨c,q,hr,rfl,r,v',hrd⟩⟩
  have hs8:=go_blk hq8 HS7.out (by omega)
  have HS8:Hid (w8.heap[sb]? =some (.cells #[.int .i64 1,.int .i64 p,.string s,.string ⟨#[]⟩,.bool true,.slice lo ln lc,.int .i64 0,.int .i64 0,.int .i64 0,.int .i64 0,.string ⟨#[]⟩,.slice none 0 0,.slice none 0 0,.slice none 0 0,.slice none 0 0] 136 (0,0))):=hs8
  have HG8:Hid _:=hg8
  have HL8:Hid (LabV w8 (fun b=>sb<b) (.slice lo ln lc) l):=HL7.out.keeps (Keeps.of_grown hq8 fun b hb=>by simp;omega)
  have HY8:Hid (TrIs w8 (fun b=>sb<b) y [.int .i64 z0,.int .i64 z1,.int .i64 z2,.int .i64 z3,.string z4,.slice z5 m5 d5,.slice z6 m6 d6]):=TrIs.mono hy fun b hb _=>by omega
  obtain⟨⟨a0,a1,a2,a3,a4,a5,a6,a7,a8,a9,a10,a11,a12,a13,a14⟩,hz⟩:=blkT hs8
  have hz6:=hz 6
  have hz7:=hz 7
  have hz8:=hz 8
  have hz9:=hz 9
  have hz10:=hz 10
  have hz11:=hz 11
  have hz12:=hz 12
  have l8:=lt_of_block hs8
  clear hp hq8 hg8 hs8 hz hy
  go_wp2
  obtain⟨wf,hwf⟩:∃wf,wf=((((((w8.setCell ⟨sb,6,none⟩ (.int .i64 z0)).setCell ⟨sb,7,none⟩ (.int .i64 z1)).setCell ⟨sb,8,none⟩ (.int .i64 z2)).setCell ⟨sb,9,none⟩ (.int .i64 z3)).setCell ⟨sb,10,none⟩ (.string z4)).setCell ⟨sb,11,none⟩ (.slice z5 m5 d5)).setCell ⟨sb,12,none⟩ (.slice z6 m6 d6):=⟨_,rfl⟩
  have hbf:Below sb w8 wf:=by
   rw[hwf]
   iterate 7 refine Below.setCell ?_ (by simp) _
   exact Below.refl _ _
  have hkf:∀k,k≠sb→wf.heap[k]? =w8.heap[k]? :=fun k hk=>by rw[hwf];iterate 7 rw[Below.heap_setCell _ _ _ _ hk]
  have hnf:wf.heap[sb]? =some (.cells #[.int .i64 1,.int .i64 p,.string s,.string ⟨#[]⟩,.bool true,.slice lo ln lc,.int .i64 z0,.int .i64 z1,.int .i64 z2,.int .i64 z3,.string z4,.slice z5 m5 d5,.slice z6 m6 d6,.slice none 0 0,.slice none 0 0] 136 (0,0)):=by rw[hwf];simp[World.setCell,Array.getElem?_modify,HS8.out]
  rw[←hwf]
  refine bodyPost_ret (v:=.tuple #[]) (by simp[results,Tryz.results146]) rfl ?_
  exact⟨HG8.out.fr.trans (Fr.of_below hbf),.inl ⟨_,_,HG8.out.eq,_,_,rfl,⟨rfl,lo,ln,lc,_,_,_,_,_,_,_,_,_,_,_,hnf,HSZ.out,HL8.out.keeps ⟨hbf.size,fun b hb _=>hkf b (by omega)⟩,HY8.out.keeps ⟨hbf.size,fun b hb _=>hkf b (by omega)⟩⟩,HG8.out.rd.keeps hbf hlo⟩⟩
 | false=>
  obtain⟨w6,hw6⟩:∃w6,w6=w4:=⟨_,rfl⟩
  have HG6:Hid (GoF sb w w6 rb e bl pr res (fun r2=>(Par.must e [61] r2).bind fun _ r3=>(E r3).bind fun x r4=>.ok (s,(false,[]),x) r4) r2 v2):=by
   rw[hw6]
   refine⟨HG4.out.fr,HG4.out.rd,?_,hlo⟩
   rw[HG4.out.eq]
   have h9:Par.bearsR e r2=.ok (false,[]) r2:=by unfold Par.bearsR;exact if_neg (by rw[show([123]:List UInt8)=(⟨#[123]⟩:ByteArray).data.toList from rfl,hi];simp)
   rw[h9];rfl
  have HS6:Hid (w6.heap[sb]? =some (.cells #[.int .i64 1,.int .i64 p,.string s,.string ⟨#[]⟩,.bool false,.slice none 0 0,.int .i64 0,.int .i64 0,.int .i64 0,.int .i64 0,.string ⟨#[]⟩,.slice none 0 0,.slice none 0 0,.slice none 0 0,.slice none 0 0] 136 (0,0))):=by rw[hw6];exact HS4.out
  have hl6:sb<w6.heap.size:=lt_of_block HS6.out
  have HLB:Hid (LabV w6 (fun b=>sb<b) (.slice none 0 0) []):=labNone _ _
  rw[←hw6]
  clear hi hw6
  go_wp2_with fail
  refine(rMust_any ⟨#[61]⟩ (by decide) HG6.out.rd).mono ?_
  intro x w7 hp
  rcases goF_of (P:=Par.must e [61]) HG6.out (by omega) hp with⟨a7,r7,u,v7,rfl,rfl,hq7,hg7⟩|⟨hgr,c,q,hr,rfl,r,v',hrd⟩
  rotate_left
  ·exact⟨rfl,hgr,.inr ⟨c,q,hr,rfl,r,v',hrd⟩⟩
  have HG7:Hid _:=hg7
  have HS7:Hid (w7.heap[sb]? =some (.cells #[.int .i64 1,.int .i64 p,.string s,.string ⟨#[]⟩,.bool false,.slice none 0 0,.int .i64 0,.int .i64 0,.int .i64 0,.int .i64 0,.string ⟨#[]⟩,.slice none 0 0,.slice none 0 0,.slice none 0 0,.slice none 0 0] 136 (0,0))):=go_blk hq7 HS6.out (by omega)
  have HL7:Hid (LabV w7 (fun b=>sb<b) (.slice none 0 0) []):=HLB.out.keeps (Keeps.of_grown hq7 fun b hb=>by simp;omega)
  have hl7:sb<w7.heap.size:=lt_of_block HS7.out
  clear hp hq7 hg7
  go_wp2_with fail
  refine(HE.out _ _ _ HG7.out.rd).mono ?_
  intro x w8 hp
  rcases goF_of HG7.out (by omega) hp with⟨y,r8,u,v8,rfl,⟨z0,z1,z2,z3,z4,z5,m5,d5,z6,m6,d6,rfl,hy⟩,hq8,hg8⟩|⟨hgr,c,q,hr,rfl,r,v',hrd⟩
  rotate_left
  ·exact⟨rfl,hgr,.inr ⟨c,q,hr,rfl,r,v',hrd⟩⟩
  have hs8:=go_blk hq8 HS7.out (by omega)
  have HS8:Hid (w8.heap[sb]? =some (.cells #[.int .i64 1,.int .i64 p,.string s,.string ⟨#[]⟩,.bool false,.slice none 0 0,.int .i64 0,.int .i64 0,.int .i64 0,.int .i64 0,.string ⟨#[]⟩,.slice none 0 0,.slice none 0 0,.slice none 0 0,.slice none 0 0] 136 (0,0))):=hs8
  have HG8:Hid _:=hg8
  have HL8:Hid (LabV w8 (fun b=>sb<b) (.slice none 0 0) []):=HL7.out.keeps (Keeps.of_grown hq8 fun b hb=>by simp;omega)
  have HY8:Hid (TrIs w8 (fun b=>sb<b) y [.int .i64 z0,.int .i64 z1,.int .i64 z2,.int .i64 z3,.string z4,.slice z5 m5 d5,.slice z6 m6 d6]):=TrIs.mono hy fun b hb _=>by omega
  obtain⟨⟨a0,a1,a2,a3,a4,a5,a6,a7,a8,a9,a10,a11,a12,a13,a14⟩,hz⟩:=blkT hs8
  have hz6:=hz 6
  have hz7:=hz 7
  have hz8:=hz 8
  have hz9:=hz 9
  have hz10:=hz 10
  have hz11:=hz 11
  have hz12:=hz 12
  have l8:=lt_of_block hs8
  clear hp hq8 hg8 hs8 hz hy
  go_wp2
  obtain⟨wf,hwf⟩:∃wf,wf=((((((w8.setCell ⟨sb,6,none⟩ (.int .i64 z0)).setCell ⟨sb,7,none⟩ (.int .i64 z1)).setCell ⟨sb,8,none⟩ (.int .i64 z2)).setCell ⟨sb,9,none⟩ (.int .i64 z3)).setCell ⟨sb,10,none⟩ (.string z4)).setCell ⟨sb,11,none⟩ (.slice z5 m5 d5)).setCell ⟨sb,12,none⟩ (.slice z6 m6 d6):=⟨_,rfl⟩
  have hbf:Below sb w8 wf:=by
   rw[hwf]
   iterate 7 refine Below.setCell ?_ (by simp) _
   exact Below.refl _ _
  have hkf:∀k,k≠sb→wf.heap[k]? =w8.heap[k]? :=fun k hk=>by rw[hwf];iterate 7 rw[Below.heap_setCell _ _ _ _ hk]
  have hnf:wf.heap[sb]? =some (.cells #[.int .i64 1,.int .i64 p,.string s,.string ⟨#[]⟩,.bool false,.slice none 0 0,.int .i64 z0,.int .i64 z1,.int .i64 z2,.int .i64 z3,.string z4,.slice z5 m5 d5,.slice z6 m6 d6,.slice none 0 0,.slice none 0 0] 136 (0,0)):=by rw[hwf];simp[World.setCell,Array.getElem?_modify,HS8.out]
  rw[←hwf]
  refine bodyPost_ret (v:=.tuple #[]) (by simp[results,Tryz.results146]) rfl ?_
  exact⟨HG8.out.fr.trans (Fr.of_below hbf),.inl ⟨_,_,HG8.out.eq,_,_,rfl,⟨rfl,none,0,0,_,_,_,_,_,_,_,_,_,_,_,hnf,HSZ.out,HL8.out.keeps ⟨hbf.size,fun b hb _=>hkf b (by omega)⟩,HY8.out.keeps ⟨hbf.size,fun b hb _=>hkf b (by omega)⟩⟩,HG8.out.rd.keeps hbf hlo⟩⟩
end Go.Proofs.YtepkhlpjgnckkaaGreatDoor
