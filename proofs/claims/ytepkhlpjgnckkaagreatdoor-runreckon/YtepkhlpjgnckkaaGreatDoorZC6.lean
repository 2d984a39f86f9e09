/- (*reader).primary where there is room. And more of the same. -/
import Derived.Test.YtepkhlpjgnckkaaGreatDoorZC5
namespace Go.Proofs.YtepkhlpjgnckkaaGreatDoor
set_option maxRecDepth 100000
set_option maxHeartbeats 8000000
open Go.RowKit
open Par (Tok Po Tr nx atP isT ba Res)
def AtoiC:Prop:=∀(s:ByteArray) (n:Int) (w:World),s.size≤18→Lib.atoi s.data.toList=some n→Calls Tryz.prog 184 #[.string s] w fun x w'=>x=.returned (.tuple #[.int .i64 n,.nilIface])∧Below w.heap.size w w'
structure In1 (w wt:World)(rb e d bx K:Nat)(bl:Int)(ts:List Tok)(v:Value):Prop where
 rd:Rd wt rb e bl ((d+1:Nat):Int) ts v
 gr:w.grownBy wt (some rb)
 res:wt.heap[w.heap.size]? =some (.cells ZE 134 (0,0))
 box:wt.heap[bx]? =some (.cells #[.pointer (some ⟨rb,3,none⟩)] 185 (0,0))
 tok:wt.heap[K]? =some (.cells #[.int .i64 (nx ts).1,.int .i64 ((nx ts).2.1:Int),.string (ba (nx ts).2.2)] 106 (0,0))
 hx:bx=w.heap.size+1
 hK:bx<K
theorem In1.later {w wt w':World}{rb e d bx K:Nat}{bl:Int}{ts:List Tok}{v:Value}(h:In1 w wt rb e d bx K bl ts v)(hg:wt.grownBy w' (some rb))(hrl:rb<w.heap.size):w.grownBy w' (some rb)∧w'.heap[w.heap.size]? =some (.cells ZE 134 (0,0))∧w'.heap[bx]? =some (.cells #[.pointer (some ⟨rb,3,none⟩)] 185 (0,0))∧w.heap.size<w'.heap.size:=by
 have h1:=lt_of_block h.res
 have h2:=lt_of_block h.box
 have h3:=h.hx
 refine⟨grown_trans h.gr hg,(hg.block _ h1 (by simp;omega)).trans h.res,(hg.block _ h2 (by simp;omega)).trans h.box,by have:=hg.size;omega⟩
theorem prim_some {rb e d:Nat}{bl:Int}(hd:d<12)(hA:AtoiC){E P:List Tok→Res Tr}(hE:ExpC rb e bl ((d+1:Nat):Int) E)(hP:PrimC rb e bl ((d+1:Nat):Int) P):PrimC rb e bl d (Par.primF e E P):=by
 intro w ts v h
 have hrl:=h.lt
 have f2:=fTok2
 obtain⟨w0,hw0⟩:∃w0,w0=w.alloc (.cells ZE 134):=⟨_,rfl⟩
 have hbel:Below w.heap.size w w0:=by rw[hw0];exact(Below.refl _ _).alloc (Nat.le_refl _) _
 have hs0:w0.heap.size=w.heap.size+1:=by rw[hw0];simp
 have hres:w0.heap[w.heap.size]? =some (.cells ZE 134 (0,0)):=by rw[hw0];exact heap_at_alloc _ _ _ rfl
 have H0:Hid (Rd w0 rb e bl d ts v):=h.keeps hbel h.lt
 have HEC:Hid (ExpC rb e bl ((d+1:Nat):Int) E):=hE
 have HPC:Hid (PrimC rb e bl ((d+1:Nat):Int) P):=hP
 have HAC:Hid AtoiC:=hA
 unfold ZE at hw0
 clear h hE hP hA
 go_enter_defers Tryz.func176,Tryz.ntmps176
 go_wp2_with fail
 rw[←hw0]
 clear hw0
 refine(rIn_some H0.out hd).mono ?_
 rintro x w1 ⟨rfl,hg1,hlt1,h1,hbx1⟩
 have H1:Hid (Rd w1 rb e bl ((d+1:Nat):Int) ts v):=h1
 have HG1:Hid (w0.grownBy w1 (some rb)):=hg1
 have HX1:Hid (w1.heap[w0.heap.size]? =some (.cells #[.pointer (some ⟨rb,3,none⟩)] 185 (0,0))):=hbx1
 have HR0:Hid (w0.heap[w.heap.size]? =some (.cells ZE 134 (0,0))):=hres
 have HB0:Hid (Below w.heap.size w w0):=hbel
 clear h1 hg1 hbx1 hres hbel
 go_wp2_with fail
 refine(rAt_any H1.out).mono ?_
 rintro x w1' ⟨rfl,hw1'⟩
 have hw1s:=hw1'.symm;subst hw1s
 go_wp2_with fail
 refine(rNext_any H1.out).mono ?_
 rintro x w2 ⟨rfl,hb2⟩
 obtain⟨wt,hwt⟩:∃wt,wt=w2.alloc (.cells #[.int .i64 (nx ts).1,.int .i64 ((nx ts).2.1:Int),.string (ba (nx ts).2.2)] 106):=⟨_,rfl⟩
 have HI:Hid (In1 w wt rb e d (w.heap.size+1) w2.heap.size bl ts v):=by
  have hbt:Below w2.heap.size w2 wt:=by rw[hwt];exact(Below.refl _ _).alloc (Nat.le_refl _) _
  have z1:=hb2.size
  have l0:=lt_of_block HR0.out
  refine⟨(H1.out.keeps hb2 H1.out.lt).keeps hbt (by have:=H1.out.lt;omega),grown_below (grown_below (grown_trans (grown_of_below _ HB0.out) HG1.out) hb2) hbt,?_,?_,by rw[hwt];exact heap_at_alloc _ _ _ rfl,rfl,by omega⟩
  ·rw[hbt.block _ (by omega),hb2.block _ (by omega),HG1.out.block _ (by omega) (by simp;omega)];exact HR0.out
  ·rw[←hs0,hbt.block _ (by omega),hb2.block _ (by omega)];exact HX1.out
 have hz2:=hb2.size
 clear hb2 HG1 HX1 HR0 HB0 H0 H1
 obtain⟨⟨k0,k1,k2⟩,_⟩:=blk3 HI.out.tok
 have lk:w2.heap.size<wt.heap.size:=lt_of_block HI.out.tok
 by_cases c2:(nx ts).1=2
 ·obtain⟨t,r,rfl⟩:∃t r,ts=t::r:=by
   cases ts with
   | nil=>cases c2
   | cons t r=>exact⟨t,r,rfl⟩
  have b2:((nx (t::r)).1==2)=true:=by simp[c2]
  have HF:Hid (Par.primF e E P (t::r)=.ok (Tr.mk 1 t.2.1 (Par.numV t.2.2) 1 (ba []) [] []) r):=by show _=_;unfold Par.primF;rw[if_pos c2];rfl
  have hgood:=HI.out.rd.goods.2.2 c2
  clear c2
  rw[show nx (t::r)=t from rfl] at*
  go_wp2_with fail
  rw[←hwt]
  clear hwt
  refine(rTake_any HI.out.rd).mono ?_
  rintro x w3 ⟨rfl,hg3,v3,h3⟩
  have HC:=HAC.out (ba t.2.2) (Par.numV t.2.2) w3 (by rw[ba_size];exact hgood.1) (by rw[ba_data];exact hgood.2)
  have HG3:Hid (wt.grownBy w3 (some rb)):=hg3
  have H3:Hid (Rd w3 rb e bl ((d+1:Nat):Int) r v3):=h3
  clear hg3 h3 hgood k0 k1 k2
  go_wp2_with fail
  refine HC.mono ?_
  rintro x w4 ⟨rfl,hb4⟩
  obtain⟨j1,j2,j3,j4⟩:=HI.out.later (grown_below HG3.out hb4) hrl
  have J:Hid (w.grownBy w4 (some rb)∧w4.heap[w.heap.size]? =some (.cells ZE 134 (0,0))∧w4.heap[w.heap.size+1]? =some (.cells #[.pointer (some ⟨rb,3,none⟩)] 185 (0,0))):=⟨j1,j2,j3⟩
  have H4:Hid (Rd w4 rb e bl ((d+1:Nat):Int) r v3):=H3.out.keeps hb4 H3.out.lt
  unfold ZE at j2
  obtain⟨⟨q0,q1,q2,q3,q4,q5,q6⟩,p0,p1,p2,p3,p4,p5,p6⟩:=blkE j2
  clear j1 j2 j3 hb4 HC
  go_wp2
  exact door7 J.out.1 hrl H4.out J.out.2.2 (by omega) (by omega) HF.out rfl J.out.2.1 (leafT 1 _ _ 1 (by rw[ba_size];simp[maxLen]))
 ·have b2:((nx ts).1==2)=false:=by simp[c2]
  by_cases c1:(nx ts).1=1
  ·have b1:((nx ts).1==1)=true:=by simp[c1]
   have HF:Hid (Par.primF e E P ts=Par.namedR e E ts):=by show _=_;unfold Par.primF;rw[if_neg c2,if_pos c1]
   have HC:Calls Tryz.prog 185 #[.pointer (some ⟨rb,0,none⟩)] wt (Post wt rb e bl ((d+1:Nat):Int) (Par.namedR e E ts) (VE wt.heap.size)):=by
    cases ts with
    | nil=>cases c1
    | cons t r=>exact namedC HEC.out HI.out.rd c1
   clear c1 c2
   go_wp2_with fail
   rw[←hwt]
   clear hwt
   refine(HC).mono ?_
   rintro x w3 ⟨hg3,⟨a,r3,hr3,u,v3,rfl,⟨z0,z1,z2,z3,z4,z5,m5,d5,z6,m6,d6,rfl,hx3⟩,h3⟩|⟨cc,q,hr3,rfl,r3,v3,h3⟩⟩
   ·obtain⟨j1,j2,j3,j4⟩:=HI.out.later hg3 hrl
    have J:Hid (w.grownBy w3 (some rb)∧w3.heap[w.heap.size]? =some (.cells ZE 134 (0,0))∧w3.heap[w.heap.size+1]? =some (.cells #[.pointer (some ⟨rb,3,none⟩)] 185 (0,0))):=⟨j1,j2,j3⟩
    have H3:Hid (Rd w3 rb e bl ((d+1:Nat):Int) r3 v3):=h3
    have HT:Hid (TrIs w3 (fun b=>w.heap.size+1≤b) a [.int .i64 z0,.int .i64 z1,.int .i64 z2,.int .i64 z3,.string z4,.slice z5 m5 d5,.slice z6 m6 d6]):=TrIs.mono hx3 fun b hb _=>by omega
    have HRR:Hid (Par.primF e E P ts=.ok a r3):=by show _=_;rw[HF.out];exact hr3
    unfold ZE at j2
    obtain⟨⟨q0,q1,q2,q3,q4,q5,q6⟩,p0,p1,p2,p3,p4,p5,p6⟩:=blkE j2
    clear j1 j2 j3 hg3 h3 hx3 hr3 k0 k1 k2
    go_wp2
    exact door7 J.out.1 hrl H3.out J.out.2.2 (by omega) (by omega) HRR.out rfl J.out.2.1 HT.out
   ·obtain⟨j1,j2,j3,j4⟩:=HI.out.later hg3 hrl
    exact door_no j1 h3 j3 (by omega) (by rw[HF.out];exact hr3)
  ·have b1:((nx ts).1==1)=false:=by simp[c1]
   by_cases c3:(nx ts).2.2=[114,101,108,101,97,115,101]
   ·have b3:((ba (nx ts).2.2).toList==[114,101,108,101,97,115,101])=true:=by rw[ba_list,c3];rfl
    have HF:Hid (Par.primF e E P ts=Par.relR e E ts):=by show _=_;unfold Par.primF;rw[if_neg c2,if_neg c1,if_pos c3]
    have HC:Calls Tryz.prog 186 #[.pointer (some ⟨rb,0,none⟩)] wt (Post wt rb e bl ((d+1:Nat):Int) (Par.relR e E ts) (VE wt.heap.size)):=by
     cases ts with
     | nil=>cases c3
     | cons t r=>exact releaseC HEC.out HI.out.rd c3
    clear c1 c2 c3
    go_wp2_with fail
    rw[←hwt]
    clear hwt
    refine(HC).mono ?_
    rintro x w3 ⟨hg3,⟨a,r3,hr3,u,v3,rfl,⟨z0,z1,z2,z3,z4,z5,m5,d5,z6,m6,d6,rfl,hx3⟩,h3⟩|⟨cc,q,hr3,rfl,r3,v3,h3⟩⟩
    ·obtain⟨j1,j2,j3,j4⟩:=HI.out.later hg3 hrl
     have J:Hid (w.grownBy w3 (some rb)∧w3.heap[w.heap.size]? =some (.cells ZE 134 (0,0))∧w3.heap[w.heap.size+1]? =some (.cells #[.pointer (some ⟨rb,3,none⟩)] 185 (0,0))):=⟨j1,j2,j3⟩
     have H3:Hid (Rd w3 rb e bl ((d+1:Nat):Int) r3 v3):=h3
     have HT:Hid (TrIs w3 (fun b=>w.heap.size+1≤b) a [.int .i64 z0,.int .i64 z1,.int .i64 z2,.int .i64 z3,.string z4,.slice z5 m5 d5,.slice z6 m6 d6]):=TrIs.mono hx3 fun b hb _=>by omega
     have HRR:Hid (Par.primF e E P ts=.ok a r3):=by show _=_;rw[HF.out];exact hr3
     unfold ZE at j2
     obtain⟨⟨q0,q1,q2,q3,q4,q5,q6⟩,p0,p1,p2,p3,p4,p5,p6⟩:=blkE j2
     clear j1 j2 j3 hg3 h3 hx3 hr3 k0 k1 k2
     go_wp2
     exact door7 J.out.1 hrl H3.out J.out.2.2 (by omega) (by omega) HRR.out rfl J.out.2.1 HT.out
    ·obtain⟨j1,j2,j3,j4⟩:=HI.out.later hg3 hrl
     exact door_no j1 h3 j3 (by omega) (by rw[HF.out];exact hr3)
   ·have b3:((ba (nx ts).2.2).toList==[114,101,108,101,97,115,101])=false:=by rw[ba_list];simp[c3]
    by_cases c4:(nx ts).2.2=[45]∨(nx ts).2.2=[33]
    ·obtain⟨t,r,rfl⟩:∃t r,ts=t::r:=by
      cases ts with
      | nil=>rcases c4 with c4 | c4<;>cases c4
      | cons t r=>exact⟨t,r,rfl⟩
     have b4:((ba (nx (t::r)).2.2).toList==[45])=true∨(((ba (nx (t::r)).2.2).toList==[45])=false∧((ba (nx (t::r)).2.2).toList==[33])=true):=by
      rw[ba_list]
      rcases c4 with c4 | c4
      ·left;rw[c4];rfl
      ·right;rw[c4];exact⟨rfl,rfl⟩
     have HF:Hid (Par.primF e E P (t::r)=(P r).bind fun x r=>.ok (Par.opT t [x]) r):=by show _=_;unfold Par.primF;rw[if_neg c2,if_neg c1,if_neg c3,if_pos c4];rfl
     have hgt:=HI.out.rd.goods.1
     clear c1 c2 c3 c4
     rw[show nx (t::r)=t from rfl] at*
     rcases b4 with b4 |⟨b4,b5⟩
     all_goals
      go_wp2_with fail
      rw[←hwt]
      clear hwt
      refine(rTake_any HI.out.rd).mono ?_
      rintro x w3 ⟨rfl,hg3,v3,h3⟩
      have HC:=HPC.out w3 r v3 h3
      have HG3:Hid (wt.grownBy w3 (some rb)):=hg3
      have hz3:=hg3.size
      clear hg3 h3 k0 k1 k2
      go_wp2_with fail
      refine HC.mono ?_
      rintro x w4 ⟨hg4,⟨a,r4,hr4,u,v4,rfl,⟨z0,z1,z2,z3,z4,z5,m5,d5,z6,m6,d6,rfl,hx4⟩,h4⟩|⟨cc,q,hr4,rfl,r4,v4,h4⟩⟩
      ·obtain⟨j1,j2,j3,j4⟩:=HI.out.later (grown_trans HG3.out hg4) hrl
       have J:Hid (w.grownBy w4 (some rb)∧w4.heap[w.heap.size]? =some (.cells ZE 134 (0,0))∧w4.heap[w.heap.size+1]? =some (.cells #[.pointer (some ⟨rb,3,none⟩)] 185 (0,0))):=⟨j1,j2,j3⟩
       have H4:Hid (Rd w4 rb e bl ((d+1:Nat):Int) r4 v4):=h4
       have HT:Hid (TrIs w4 (fun b=>w.heap.size+1≤b) a [.int .i64 z0,.int .i64 z1,.int .i64 z2,.int .i64 z3,.string z4,.slice z5 m5 d5,.slice z6 m6 d6]):=TrIs.mono hx4 fun b hb _=>by omega
       have HRR:Hid (Par.primF e E P (t::r)=.ok (Par.opT t [a]) r4):=by show _=_;rw[HF.out,hr4];rfl
       unfold ZE at j2
       obtain⟨⟨q0,q1,q2,q3,q4,q5,q6⟩,p0,p1,p2,p3,p4,p5,p6⟩:=blkE j2
       clear j1 j2 j3 hg4 h4 hx4 hr4 HC
       go_wp2
       exact door1 J.out.1 hrl H4.out J.out.2.2 (by omega) (by omega) HRR.out hgt rfl J.out.2.1 HT.out
      ·obtain⟨j1,j2,j3,j4⟩:=HI.out.later (grown_trans HG3.out hg4) hrl
       exact door_no j1 h4 j3 (by omega) (by rw[HF.out,hr4];rfl)
    ·have b4:((ba (nx ts).2.2).toList==[45])=false:=by rw[ba_list];simp;exact fun h=>c4 (.inl h)
     have b5:((ba (nx ts).2.2).toList==[33])=false:=by rw[ba_list];simp;exact fun h=>c4 (.inr h)
     go_wp2_with fail
     rw[←hwt]
     clear hwt k0 k1 k2
     refine(rMay_any _ (by decide) HI.out.rd).mono ?_
     rintro x w3 ⟨rfl,hg3,v3,h3⟩
     by_cases c6:(nx ts).2.2=[116,114,117,101]
     ·obtain⟨t,r,rfl⟩:∃t r,ts=t::r:=by
       cases ts with
       | nil=>cases c6
       | cons t r=>exact⟨t,r,rfl⟩
      have i6:isT (⟨#[116,114,117,101]⟩:ByteArray).data.toList (t::r)=true:=by show((nx (t::r)).2.2==_)=true;rw[c6];rfl
      rw[i6] at h3⊢
      have HRR:Hid (Par.primF e E P (t::r)=.ok (Tr.mk 1 t.2.1 1 2 (ba []) [] []) r):=by show _=_;unfold Par.primF;rw[if_neg c2,if_neg c1,if_neg c3,if_neg c4,if_pos c6];rfl
      obtain⟨j1,j2,j3,j4⟩:=HI.out.later hg3 hrl
      have J:Hid (w.grownBy w3 (some rb)∧w3.heap[w.heap.size]? =some (.cells ZE 134 (0,0))∧w3.heap[w.heap.size+1]? =some (.cells #[.pointer (some ⟨rb,3,none⟩)] 185 (0,0))):=⟨j1,j2,j3⟩
      have H3:Hid (Rd w3 rb e bl ((d+1:Nat):Int) r v3):=h3
      unfold ZE at j2
      obtain⟨⟨q0,q1,q2,q3,q4,q5,q6⟩,p0,p1,p2,p3,p4,p5,p6⟩:=blkE j2
      clear j1 j2 j3 hg3 h3 i6 c1 c2 c3 c4 c6
      go_wp2
      exact door7 J.out.1 hrl H3.out J.out.2.2 (by omega) (by omega) HRR.out rfl J.out.2.1 (leafT 1 _ 1 2 (by rw[ba_size];simp[maxLen]))
     ·have i6:isT (⟨#[116,114,117,101]⟩:ByteArray).data.toList ts=false:=by show((nx ts).2.2==_)=false;simp;exact c6
      rw[i6] at h3⊢
      have H3:Hid (Rd w3 rb e bl ((d+1:Nat):Int) ts v3):=h3
      have HG3:Hid (wt.grownBy w3 (some rb)):=hg3
      clear hg3 h3 i6
      go_wp2_with fail
      refine(rMay_any _ (by decide) H3.out).mono ?_
      rintro x w4 ⟨rfl,hg4,v4,h4⟩
      by_cases c7:(nx ts).2.2=[102,97,108,115,101]
      ·obtain⟨t,r,rfl⟩:∃t r,ts=t::r:=by
        cases ts with
        | nil=>cases c7
        | cons t r=>exact⟨t,r,rfl⟩
       have i7:isT (⟨#[102,97,108,115,101]⟩:ByteArray).data.toList (t::r)=true:=by show((nx (t::r)).2.2==_)=true;rw[c7];rfl
       rw[i7] at h4⊢
       have HRR:Hid (Par.primF e E P (t::r)=.ok (Tr.mk 1 t.2.1 0 2 (ba []) [] []) r):=by show _=_;unfold Par.primF;rw[if_neg c2,if_neg c1,if_neg c3,if_neg c4,if_neg c6,if_pos c7];rfl
       obtain⟨j1,j2,j3,j4⟩:=HI.out.later (grown_trans HG3.out hg4) hrl
       have J:Hid (w.grownBy w4 (some rb)∧w4.heap[w.heap.size]? =some (.cells ZE 134 (0,0))∧w4.heap[w.heap.size+1]? =some (.cells #[.pointer (some ⟨rb,3,none⟩)] 185 (0,0))):=⟨j1,j2,j3⟩
       have H4:Hid (Rd w4 rb e bl ((d+1:Nat):Int) r v4):=h4
       unfold ZE at j2
       obtain⟨⟨q0,q1,q2,q3,q4,q5,q6⟩,p0,p1,p2,p3,p4,p5,p6⟩:=blkE j2
       clear j1 j2 j3 hg4 h4 i7 c1 c2 c3 c4 c6 c7
       go_wp2
       exact door7 J.out.1 hrl H4.out J.out.2.2 (by omega) (by omega) HRR.out rfl J.out.2.1 (leafT 1 _ 0 2 (by rw[ba_size];simp[maxLen]))
      ·have i7:isT (⟨#[102,97,108,115,101]⟩:ByteArray).data.toList ts=false:=by show((nx ts).2.2==_)=false;simp;exact c7
       rw[i7] at h4⊢
       have HF:Hid (Par.primF e E P ts=(Par.must e [40] ts).bind fun _ r1=>(E r1).bind fun x r2=>(Par.must e [41] r2).bind fun _ r3=>.ok x r3):=by show _=_;unfold Par.primF;rw[if_neg c2,if_neg c1,if_neg c3,if_neg c4,if_neg c6,if_neg c7];rfl
       have H4:Hid (Rd w4 rb e bl ((d+1:Nat):Int) ts v4):=h4
       have HG4:Hid (wt.grownBy w4 (some rb)):=grown_trans HG3.out hg4
       clear hg4 h4 i7 c1 c2 c3 c4 c6 c7
       go_wp2_with fail
       refine(rMust_any _ (by decide) H4.out).mono ?_
       rintro x w5 ⟨hg5,⟨a5,r5,hr5,u5,v5,rfl,rfl,h5⟩|⟨cc,q,hr5,rfl,r5,v5,h5⟩⟩
       ·have HG5:Hid (wt.grownBy w5 (some rb)):=grown_trans HG4.out hg5
        have HF5:Hid (Par.primF e E P ts=(E r5).bind fun x r2=>(Par.must e [41] r2).bind fun _ r3=>.ok x r3):=by show _=_;rw[HF.out,show Par.must e [40] ts=.ok a5 r5 from hr5];rfl
        have HC:=HEC.out w5 r5 v5 h5
        have hz5:=HG5.out.size
        clear hg5 h5 hr5
        go_wp2_with fail
        refine HC.mono ?_
        rintro x w6 ⟨hg6,⟨a6,r6,hr6,u6,v6,rfl,⟨z0,z1,z2,z3,z4,z5,m5,d5,z6,m6,d6,rfl,hx6⟩,h6⟩|⟨cc,q,hr6,rfl,r6,v6,h6⟩⟩
        ·have hz6:=hg6.size
         obtain⟨wb,hwb⟩:∃wb,wb=w6.alloc (.cells #[.int .i64 z0,.int .i64 z1,.int .i64 z2,.int .i64 z3,.string z4,.slice z5 m5 d5,.slice z6 m6 d6] 134):=⟨_,rfl⟩
         have hbb:Below w6.heap.size w6 wb:=by rw[hwb];exact(Below.refl _ _).alloc (Nat.le_refl _) _
         have hsb:wb.heap.size=w6.heap.size+1:=by rw[hwb];simp
         have hxb:Hid (wb.heap[w6.heap.size]? =some (.cells #[.int .i64 z0,.int .i64 z1,.int .i64 z2,.int .i64 z3,.string z4,.slice z5 m5 d5,.slice z6 m6 d6] 134 (0,0))):=by show _=_;rw[hwb];exact heap_at_alloc _ _ _ rfl
         have HF6:Hid (Par.primF e E P ts=(Par.must e [41] r6).bind fun _ r3=>.ok a6 r3):=by show _=_;rw[HF5.out,hr6];rfl
         have HGb:Hid (wt.grownBy wb (some rb)):=grown_below (grown_trans HG5.out hg6) hbb
         have Hb:Hid (Rd wb rb e bl ((d+1:Nat):Int) r6 v6):=h6.keeps hbb h6.lt
         have HTb:Hid (TrIs wb (fun b=>w.heap.size+1≤b) a6 [.int .i64 z0,.int .i64 z1,.int .i64 z2,.int .i64 z3,.string z4,.slice z5 m5 d5,.slice z6 m6 d6]):=(TrIs.mono hx6 fun b hb _=>by omega).keeps (Keeps.of_below hbb)
         clear hg6 h6 hx6 hr6 hbb HC
         go_wp2_with fail
         rw[←hwb]
         clear hwb
         refine(rMust_any _ (by decide) Hb.out).mono ?_
         rintro x w7 ⟨hg7,⟨a7,r7,hr7,u7,v7,rfl,rfl,h7⟩|⟨cc,q,hr7,rfl,r7,v7,h7⟩⟩
         ·have HRR:Hid (Par.primF e E P ts=.ok a6 r7):=by show _=_;rw[HF6.out,show Par.must e [41] r6=.ok a7 r7 from hr7];rfl
          obtain⟨j1,j2,j3,j4⟩:=HI.out.later (grown_trans HGb.out hg7) hrl
          have J:Hid (w.grownBy w7 (some rb)∧w7.heap[w.heap.size]? =some (.cells ZE 134 (0,0))∧w7.heap[w.heap.size+1]? =some (.cells #[.pointer (some ⟨rb,3,none⟩)] 185 (0,0))):=⟨j1,j2,j3⟩
          have H7:Hid (Rd w7 rb e bl ((d+1:Nat):Int) r7 v7):=h7
          have HT7:Hid (TrIs w7 (fun b=>w.heap.size+1≤b) a6 [.int .i64 z0,.int .i64 z1,.int .i64 z2,.int .i64 z3,.string z4,.slice z5 m5 d5,.slice z6 m6 d6]):=HTb.out.keeps (Keeps.of_grown hg7 fun b hb=>by simp;omega)
          have hx7:=(hg7.block w6.heap.size (by omega) (by simp;have:=HI.out.rd.lt;omega)).trans hxb.out
          unfold ZE at j2
          obtain⟨⟨q0,q1,q2,q3,q4,q5,q6⟩,p0,p1,p2,p3,p4,p5,p6⟩:=blkE j2
          obtain⟨⟨o0,o1,o2,o3,o4,o5,o6⟩,_⟩:=blkE hx7
          clear j1 j2 j3 hg7 h7 hr7 hx7
          go_wp2
          exact door7 J.out.1 hrl H7.out J.out.2.2 (by omega) (by omega) HRR.out rfl J.out.2.1 HT7.out
         ·obtain⟨j1,j2,j3,j4⟩:=HI.out.later (grown_trans HGb.out hg7) hrl
          exact door_no j1 h7 j3 (by omega) (by rw[HF6.out,show Par.must e [41] r6=.no cc q from hr7];rfl)
        ·obtain⟨j1,j2,j3,j4⟩:=HI.out.later (grown_trans HG5.out hg6) hrl
         exact door_no j1 h6 j3 (by omega) (by rw[HF5.out,hr6];rfl)
       ·obtain⟨j1,j2,j3,j4⟩:=HI.out.later (grown_trans HG4.out hg5) hrl
        exact door_no j1 h5 j3 (by omega) (by rw[HF.out,show Par.must e [40] ts=.no cc q from hr5];rfl)
theorem bnd_all {rb e:Nat}{bl pr:Int}{P:List Tok→Res Tr}(hS:Par.Sfx P)(hP:PrimC rb e bl pr P):∀j,j≤5→BndC rb e bl pr P j
 | 0,_=>bnd_zero hP
 | j+1,hj=>bnd_succ hS (by omega) (bnd_all hS hP j (by omega))
theorem prim_all {rb e:Nat}{bl:Int}(hA:AtoiC):∀k,k≤12→PrimC rb e bl ((12 - k:Nat):Int) (Par.prim e k):=by
 intro k
 induction k with
 | zero=>intro _;exact prim_full
 | succ k ih=>
  intro hk
  have hP:=ih (by omega)
  have hd:12 - k=12 - (k+1)+1:=by omega
  rw[hd] at hP
  exact prim_some (by omega) hA (exprC (bnd_all (Par.prim_sfx e k) hP 5 (Nat.le_refl _))) hP
theorem expr_all {rb e:Nat}{bl:Int}(hA:AtoiC):ExpC rb e bl 0 (Par.exprR e 12):=by
 have hP:=prim_all (rb:=rb) (e:=e) (bl:=bl) hA 12 (Nat.le_refl _)
 exact exprC (bnd_all (Par.prim_sfx e 12) hP 5 (Nat.le_refl _))
open Par (Tok Po Tr nx atP isT ba Res Stm Prm Chn Prc Prg)
theorem bIn_many {w:World}{rb e:Nat}{pr:Int}{ts:List Tok}{v:Value}(h:Rd w rb e 12 pr ts v):
 Calls Tryz.prog 105 #[.pointer (some ⟨rb,0,none⟩),.pointer (some ⟨rb,2,none⟩)] w fun x w'=>x=goneE 2 (atP e ts)∧Below w.heap.size w w':=by
 have hmf:=mkF
 obtain⟨c0,c1,c2,c3⟩:=h.cells
 have hlt:=h.lt
 have H:Hid (∀o,Rd (w.alloc o) rb e 12 pr ts v):=fun o=>h.keeps ((Below.refl _ _).alloc (Nat.le_refl _) o) h.lt
 clear h
 go_enter Tryz.func105,Tryz.ntmps105
 go_wp2_with fail
 refine(rGive_any _ (H.out _)).mono ?_
 rintro x w2 ⟨rfl,hw2⟩
 subst hw2
 exact⟨rfl,rfl,(Below.refl _ _).alloc (Nat.le_refl _) _⟩
theorem bIn_some {w:World}{rb e d:Nat}{pr:Int}{ts:List Tok}{v:Value}(h:Rd w rb e d pr ts v)(hd:d<12):
 Calls Tryz.prog 105 #[.pointer (some ⟨rb,0,none⟩),.pointer (some ⟨rb,2,none⟩)] w fun x w'=>x=.returned (.func (.func 144) #[] #[.pointer (some ⟨w.heap.size,0,none⟩)])∧w.grownBy w' (some rb)∧w.heap.size<w'.heap.size∧Rd w' rb e ((d+1:Nat):Int) pr ts v∧w'.heap[w.heap.size]? =some (.cells #[.pointer (some ⟨rb,2,none⟩)] 185 (0,0)):=by
 have hmf:=mkF
 obtain⟨c0,c1,c2,c3⟩:=h.cells
 have z3:=h.frozen 2
 have hlt:=h.lt
 have hn:(((d:Nat):Int)==12)=false:=by simp;omega
 have H:Hid (∀o,Rd ((w.setCell ⟨rb,2,none⟩ (.int .i64 ((d+1:Nat):Int))).alloc o) rb e ((d+1:Nat):Int) pr ts v):=fun o=>(h.setBl _).keeps ((Below.refl _ _).alloc (Nat.le_refl _) o) (by simpa[World.setCell] using h.lt)
 clear h
 go_enter Tryz.func105,Tryz.ntmps105
 go_wp2
 go_ret
 refine⟨rfl,grown_alloc (grown_set (grown_refl _ _) rfl _) _,by simp[World.setCell],H.out _,heap_at_alloc _ _ _ (by simp[World.setCell])⟩
theorem bOut {w:World}{rb e d bx:Nat}{pr:Int}{ts:List Tok}{v:Value}(u:FrameMode)(h:Rd w rb e ((d+1:Nat):Int) pr ts v)(hb:w.heap[bx]? =some (.cells #[.pointer (some ⟨rb,2,none⟩)] 185 (0,0)))(hd:d≤12):
 CallsD Tryz.prog 144 #[.pointer (some ⟨bx,0,none⟩)] u w fun x u' w'=>u'=u∧(x=.returned (.tuple #[])∧w'=w.setCell ⟨rb,2,none⟩ (.int .i64 d)∧Rd w' rb e d pr ts v):=by
 obtain⟨c0,c1,c2,c3⟩:=h.cells
 have z3:=h.frozen 2
 have hlt:=h.lt
 have k0:w.cell? ⟨bx,0,none⟩=some (.pointer (some ⟨rb,2,none⟩)):=by simp[World.cell?,hb]
 have H:Hid (Rd (w.setCell ⟨rb,2,none⟩ (.int .i64 (d:Int))) rb e d pr ts v):=h.setBl _
 clear h
 go_enter_d Tryz.func144,Tryz.ntmps144
 go_wp2
 go_end0
 exact⟨rfl,rfl,H.out⟩
theorem bdoor_no {w wz:World}{rb e d bx:Nat}{pr:Int}{r:List Tok}{v:Value}{tm:Array Value}{res:Res (List Stm)}{V:World→List Stm→Value→Prop}{c:Int}{q:Nat}(hg:w.grownBy wz (some rb))(h:Rd wz rb e ((d+1:Nat):Int) pr r v)(hb:wz.heap[bx]? =some (.cells #[.pointer (some ⟨rb,2,none⟩)] 185 (0,0)))(hd:d≤12)(hr:res=.no c q):
 Leaves Tryz.prog Tryz.f69 tm (Post w rb e d pr res V) [outD bx] (.panicking [{v:=stopV c q,recovered:=false}]) wz:=by
 refine leaves_cons (f:=144) (args:=#[.pointer (some ⟨bx,0,none⟩)]) (by simp) (by simp[go_sem]) ?_
 refine(bOut (.panicking [{v:=stopV c q,recovered:=false}]) h hb hd).mono ?_
 rintro x u' w'' ⟨rfl,rfl,rfl,hR⟩
 exact⟨grown_set hg rfl _,.inr ⟨c,q,hr,rfl,_,_,hR⟩⟩
theorem bdoor_ok {w wz:World}{rb e d bx:Nat}{pr:Int}{r:List Tok}{v:Value}{tm:Array Value}{res:Res (List Stm)}{l:List Stm}{ao:Option Addr}{n c:Nat}(hg:w.grownBy wz (some rb))(hrl:rb<w.heap.size)(h:Rd wz rb e ((d+1:Nat):Int) pr r v)(hb:wz.heap[bx]? =some (.cells #[.pointer (some ⟨rb,2,none⟩)] 185 (0,0)))(hd:d≤12)(hr:res=.ok l r)
 (ht2:tm[2]? =some (.slice ao n c)) (ht:RwV StIs wz (fun b=>w.heap.size≤b) 15 (.slice ao n c) l):
 Leaves Tryz.prog Tryz.f69 tm (Post w rb e d pr res (VBk w.heap.size)) [outD bx] .returning wz:=by
 refine leaves_cons (f:=144) (args:=#[.pointer (some ⟨bx,0,none⟩)]) (by simp) (by simp[go_sem]) ?_
 refine(bOut .returning h hb hd).mono ?_
 rintro x u' w'' ⟨rfl,rfl,hw,hR⟩
 refine⟨.slice ao n c,by simp[results,Tryz.results69,go_sem,ht2],by rw[hw];exact grown_set hg rfl _,.inl ⟨l,r,hr,_,_,rfl,⟨_,_,_,rfl,?_⟩,hR⟩⟩
 exact rwT_keeps ht (by rw[hw];exact Keeps.of_grown (grown_set (grown_refl _ _) rfl _) fun b hb=>by simp;omega)
theorem blk_full {rb e:Nat}{pr:Int}:BlkC rb e 12 pr (Par.block e 0):=by
 intro w ts v h
 obtain⟨res,hres⟩:∃res,res=Par.block e 0 ts:=⟨_,rfl⟩
 rw[←hres]
 have HRS:Hid (res=Par.block e 0 ts):=hres
 have HM:=rMust_any ⟨#[123]⟩ (by decide) h
 clear h hres
 go_enter_defers Tryz.func69,Tryz.ntmps69
 go_wp2_with fail
 refine HM.mono ?_
 rintro x w1 ⟨hg1,⟨a,r,hr,u,v1,rfl,rfl,h1⟩|⟨cc,q,hr,rfl,r,v1,h1⟩⟩
 ·have HI:=bIn_many h1
  have H1:Hid (Rd w1 rb e 12 pr r v1):=h1
  have HG1:Hid (w.grownBy w1 (some rb)):=hg1
  have HR:Hid (res=.no 2 (atP e r)):=by show _=_;rw[HRS.out];unfold Par.block;rw[show Par.must e [123] ts=.ok a r from hr];rfl
  have hlt:=h1.lt
  clear h1 hg1 hr HM
  go_wp2_with fail
  refine HI.mono ?_
  rintro x w2 ⟨rfl,hb2⟩
  exact⟨grown_below HG1.out hb2,.inr ⟨_,_,HR.out,rfl,_,_,H1.out.keeps hb2 H1.out.lt⟩⟩
 ·exact⟨hg1,.inr ⟨_,_,by rw[HRS.out];unfold Par.block;rw[show Par.must e [123] ts=.no cc q from hr];rfl,rfl,_,_,h1⟩⟩
structure BkS (w w2 wr:World)(rb e d bx:Nat)(res:Res (List Stm))(S:List Tok→Res Stm)(lv:Value)(acc:List Stm)(ts:List Tok)(v:Value):Prop where
 own:OwnL StIs wr w2.heap.size 136 15 lv acc
 rd:Rd wr rb e ((d+1:Nat):Int) 0 ts v
 gr:w.grownBy wr (some rb)
 fr:Fr w2.heap.size rb w2 wr
 box:wr.heap[bx]? =some (.cells #[.pointer (some ⟨rb,2,none⟩)] 185 (0,0))
 len:acc.length≤20
 eq:res=Par.bodyF e S (20 - acc.length) acc ts
theorem blk_some {rb e d:Nat}(hd:d<12){Bk:List Tok→Res (List Stm)}(hE:ExpC rb e ((d+1:Nat):Int) 0 (Par.exprR e 12))(hBk:BlkC rb e ((d+1:Nat):Int) 0 Bk):BlkC rb e d 0 (fun ts=>(Par.must e [123] ts).bind fun _ r=>Par.bodyF e (Par.stmF e Bk) 20 [] r):=by
 have hmf:=mkF
 intro w ts v h
 obtain⟨res,hres⟩:∃res,res=(Par.must e [123] ts).bind fun _ r=>Par.bodyF e (Par.stmF e Bk) 20 [] r:=⟨_,rfl⟩
 show Calls _ _ _ _ (Post w rb e d 0 ((Par.must e [123] ts).bind fun _ r=>Par.bodyF e (Par.stmF e Bk) 20 [] r) _)
 rw[←hres]
 have HRS:Hid (res=(Par.must e [123] ts).bind fun _ r=>Par.bodyF e (Par.stmF e Bk) 20 [] r):=hres
 have HM:=rMust_any ⟨#[123]⟩ (by decide) h
 have HE:Hid (ExpC rb e ((d+1:Nat):Int) 0 (Par.exprR e 12)):=hE
 have HK:Hid (BlkC rb e ((d+1:Nat):Int) 0 Bk):=hBk
 have hlt:=h.lt
 clear h hres hE hBk
 go_enter_defers Tryz.func69,Tryz.ntmps69
 go_wp2_with fail
 refine HM.mono ?_
 rintro x w1 ⟨hg1,⟨a,r,hr,u,v1,rfl,rfl,h1⟩|⟨cc,q,hr,rfl,r,v1,h1⟩⟩
 rotate_left
 ·exact⟨hg1,.inr ⟨_,_,by rw[HRS.out,show Par.must e [123] ts=.no cc q from hr];rfl,rfl,_,_,h1⟩⟩
 have HI:=bIn_some h1 hd
 have HG1:Hid (w.grownBy w1 (some rb)):=hg1
 have HR:Hid (res=Par.bodyF e (Par.stmF e Bk) 20 [] r):=by show _=_;rw[HRS.out,show Par.must e [123] ts=.ok a r from hr];rfl
 have hlt1:=h1.lt
 have hz1:=hg1.size
 clear h1 hg1 hr HM HRS
 go_wp2_with fail
 refine HI.mono ?_
 rintro x w2 ⟨rfl,hg2,hlt2,h2,hbx2⟩
 have HL0:Hid (BkS w w2 w2 rb e d w1.heap.size res (Par.stmF e Bk) (.slice none 0 0) [] r v1):=⟨OwnL.nil _ _ _ _ _,h2,grown_trans HG1.out hg2,Fr.of_below (Below.refl _ _),hbx2,by simp,HR.out⟩
 clear HI hg2 h2 hbx2 HG1 HR
 go_wp2
 go_loopw [3] (fun lv wr=>∃ao n cc,lv=.slice ao n cc∧n≤20∧Hid (∃acc ts' v',n=acc.length∧BkS w w2 wr rb e d w1.heap.size res (Par.stmF e Bk) lv acc ts' v')) (fun lv _=>20 - lenOf lv)
 case atStart=>exact⟨_,_,_,rfl,Nat.zero_le _,[],_,_,rfl,HL0.out⟩
 case round=>
  clear HL0
  obtain⟨ao,n,cc,rfl,hn,HD⟩:=hrel
  obtain⟨acc,ts',v',hnl,hS⟩:=HD.out
  subst hnl
  have HL:Hid (BkS w w2 wr rb e d w1.heap.size res (Par.stmF e Bk) (.slice ao acc.length cc) acc ts' v'):=hS
  have HMY:=rMay_any ⟨#[125]⟩ (by decide) hS.rd
  have hltr:=hS.rd.lt
  clear HD hS
  go_wp2_with fail
  refine HMY.mono ?_
  rintro x w3 ⟨rfl,hg3,v3,h3⟩
  have HG3:Hid (wr.grownBy w3 (some rb)):=hg3
  have hz3:=hg3.size
  clear hg3 HMY
  cases hi:isT (⟨#[125]⟩:ByteArray).data.toList ts' with
  | true=>
   rw[hi] at h3
   have H3:Hid (Rd w3 rb e ((d+1:Nat):Int) 0 ts'.tail v3):=h3
   have HOK:Hid (res=.ok acc ts'.tail):=by
    show _=_
    rw[HL.out.eq]
    cases 20 - acc.length with
    | zero=>unfold Par.bodyF;rw[if_pos hi]
    | succ m=>unfold Par.bodyF;rw[if_pos hi]
   clear hi h3
   go_wp2
   have hb:=(HG3.out.block _ (lt_of_block HL.out.box) (by simp;omega)).trans HL.out.box
   exact bdoor_ok (grown_trans HL.out.gr HG3.out) hlt H3.out hb (by omega) HOK.out rfl (rwT_mono ((HL.out.own.grown isElSt HG3.out (by omega)).rows isElSt) fun b hb _=>by omega)
  | false=>
   rw[hi] at h3
   have h3':Rd w3 rb e ((d+1:Nat):Int) 0 ts' v3:=h3
   have HO3:Hid (OwnL StIs w3 w2.heap.size 136 15 (.slice ao acc.length cc) acc):=HL.out.own.grown isElSt HG3.out (by omega)
   have hbb:w2.heap.size≤w3.heap.size:=by have:=HL.out.fr.size;omega
   have HMO:=moreT h3' HO3.out (by omega) hbb 20 (by omega) HL.out.len 107 #[.pointer (some ⟨rb,0,none⟩)] #[] (enters_of Tryz.func107 (by kernel_rfl) rfl) (Par.stmF e Bk ts') (stmtC HE.out HK.out h3')
   have HE3:Hid (res=if acc.length=20 then .no 2 (atP e ts') else(Par.stmF e Bk ts').bind fun s r=>Par.bodyF e (Par.stmF e Bk) (20 - (acc.length+1)) (acc++[s]) r):=by
    show _=_
    rw[HL.out.eq]
    have hl:=HL.out.len
    by_cases hf:acc.length=20
    ·rw[if_pos hf,show 20 - acc.length=0 by omega];unfold Par.bodyF;rw[if_neg (by rw[show([125]:List UInt8)=(⟨#[125]⟩:ByteArray).data.toList from rfl,hi];simp)]
    ·rw[if_neg hf,show 20 - acc.length=(20 - (acc.length+1))+1 by omega]
     conv=>lhs;unfold Par.bodyF
     rw[if_neg (by rw[show([125]:List UInt8)=(⟨#[125]⟩:ByteArray).data.toList from rfl,hi];simp)]
   have HF3:Hid (Fr w2.heap.size rb w2 w3):=HL.out.fr.trans (Fr.of_grown HG3.out HL.out.fr.size)
   have HW3:Hid (w.grownBy w3 (some rb)):=grown_trans HL.out.gr HG3.out
   have HX3:Hid (w3.heap[w1.heap.size]? =some (.cells #[.pointer (some ⟨rb,2,none⟩)] 185 (0,0))):=(HG3.out.block _ (lt_of_block HL.out.box) (by simp;omega)).trans HL.out.box
   clear hi h3 h3'
   go_wp2_with fail
   refine HMO.mono ?_
   rintro x w4 ⟨hf4,⟨l,r4,hr4,u,v4,rfl,ho4,h4⟩|⟨c4,q4,hr4,rfl,r4,v4,h4⟩⟩
   ·by_cases hf:acc.length=20
    ·rw[if_pos hf] at hr4;cases hr4
    ·rw[if_neg hf] at hr4
     obtain⟨a2,r2,hq,hr4⟩:=Par.bind_ok hr4
     cases hr4
     have hnn:(acc++[a2]).length=acc.length+1:=by simp
     obtain⟨ao4,c4,hu4⟩:=ho4.slice
     rw[hnn] at hu4
     subst hu4
     have hgr4:w.grownBy w4 (some rb):=(((Fr.of_grown HW3.out (Nat.le_refl _)).trans (hf4.mono (by omega)))).grown
     have HS4:Hid (BkS w w2 w4 rb e d w1.heap.size res (Par.stmF e Bk) (.slice ao4 (acc.length+1) c4) (acc++[a2]) r4 v4):=by
      refine⟨ho4,h4,hgr4,HF3.out.trans hf4,(hf4.block _ hlt2 (by omega)).trans HX3.out,by simp;omega,?_⟩
      rw[HE3.out,if_neg hf,hq,List.length_append];rfl
     have HNN:Hid (acc.length+1=(acc++[a2]).length):=hnn.symm
     have hn1:acc.length+1≤20:=by omega
     clear hf4 ho4 h4 hq hgr4 hnn
     go_wp2
     go_roundw
     case rel=>exact⟨_,_,_,rfl,by omega,acc++[a2],_,_,HNN.out,HS4.out⟩
     case measure=>simp only[lenOf];omega
   ·have hgr4:w.grownBy w4 (some rb):=(((Fr.of_grown HW3.out (Nat.le_refl _)).trans (hf4.mono (by omega)))).grown
    refine bdoor_no hgr4 h4 ((hf4.block _ hlt2 (by omega)).trans HX3.out) (by omega) ?_
    rw[HE3.out]
    by_cases hf:acc.length=20
    ·rw[if_pos hf] at hr4⊢;exact hr4
    ·rw[if_neg hf] at hr4⊢
     cases hq:Par.stmF e Bk ts' with
     | ok a2 r2=>rw[hq] at hr4;cases hr4
     | no c2 q2=>rw[hq] at hr4;exact hr4
theorem blk_all {rb e:Nat}(hA:AtoiC):∀k,k≤12→BlkC rb e ((12 - k:Nat):Int) 0 (Par.block e k):=by
 intro k
 induction k with
 | zero=>intro _;exact blk_full
 | succ k ih=>
  intro hk
  have h1:=ih (by omega)
  have e1:12 - k=(12 - (k+1))+1:=by omega
  rw[e1] at h1
  exact blk_some (by omega) (expr_all hA) h1
open Par (Stm Prm Chn Prc Prg Tok Po Tr nx atP isT ba Res)
theorem Tryz.infoLQ:(Tryz.prog.info? 88).map (fun i=>(i.zero,i.size,i.bytes))=some (some (.agg #[.int .i64 0,.string ⟨#[]⟩,.slice none 0 0,.string ⟨#[]⟩,.int .i64 0,.slice none 0 0,.slice none 0 0,.slice none 0 0,.slice none 0 0]),9,168):=by kernel_rfl
def VQ (B:Nat)(w':World)(a:Prc)(u:Value):Prop:=∃(z0:Int) (z1:ByteArray) (z2:Option Addr) (m2 d2:Nat) (z3:ByteArray) (z4:Int) (z5:Option Addr) (m5 d5:Nat) (z6:Option Addr) (m6 d6:Nat) (z7:Option Addr) (m7 d7:Nat) (z8:Option Addr) (m8 d8:Nat),u=.agg #[.int .i64 z0,.string z1,.slice z2 m2 d2,.string z3,.int .i64 z4,.slice z5 m5 d5,.slice z6 m6 d6,.slice z7 m7 d7,.slice z8 m8 d8]∧PcIs w' (fun b=>B≤b) a [.int .i64 z0,.string z1,.slice z2 m2 d2,.string z3,.int .i64 z4,.slice z5 m5 d5,.slice z6 m6 d6,.slice z7 m7 d7,.slice z8 m8 d8]
theorem newQ (w:World)(e:TypeId){x0 x1 x2 x3 x4 x5 x6 x7 x8:Value}:∀j u,([x0,x1,x2,x3,x4,x5,x6,x7,x8]:List Value)[j]? =some u→(w.alloc (.cells #[x0,x1,x2,x3,x4,x5,x6,x7,x8] e)).cell? ((⟨w.heap.size,0,none⟩:Addr).add j)=some u:=by
 intro j u hj
 have e0:(w.alloc (.cells #[x0,x1,x2,x3,x4,x5,x6,x7,x8] e)).cell? ⟨w.heap.size,j,none⟩=(#[x0,x1,x2,x3,x4,x5,x6,x7,x8]:Array Value)[j]? :=World.cell?_alloc_at _ _ _ _ (by simp)
 have e1:(⟨w.heap.size,0,none⟩:Addr).add j=⟨w.heap.size,j,none⟩:=by simp[Addr.add];intro h;exact h.symm
 rw[e1,e0];simpa using hj
theorem moreWQ {w:World}{rb e:Nat}{bl pr:Int}{ts:List Tok}{v:Value}(h:Rd w rb e bl pr ts v){B n:Nat}{lv:Value}{css:List (List Value)}(ho:w.ownsRow B 88 9 lv n css.flatten)(hrB:rb<B)(hB:B≤w.heap.size)(most:Nat)(hm:most≤1000)(hacc:n≤most)
 (g:Nat) (fs lb:Array Value) (eg:∀args w,(callFunc g args).run Tryz.prog w=.ok (.enter g args) w) (pt:Res Prc) (hp:Calls Tryz.prog g (fs++lb) w (Post w rb e bl pr pt (VQ w.heap.size))):
 Calls Tryz.prog 44 #[.pointer (some ⟨rb,0,none⟩),lv,.int .i64 (most:Int),.func (.func g) fs lb] w (MoP PcIs w rb e bl pr B 88 9 most n css lv ts pt):=by
 obtain⟨ao,c,rfl⟩:=own_slice ho
 have H:Hid (Rd w rb e bl pr ts v):=h
 have HO:Hid (w.ownsRow B 88 9 (.slice ao n c) n css.flatten):=ho
 have HB:Hid (B≤w.heap.size):=hB
 clear h ho hB
 by_cases hf:n=most
 ·have hi:((n:Int)==(most:Int))=true:=by simp[hf]
  have HF:Hid (n=most):=hf
  clear hf hp
  go_enter Tryz.func44,Tryz.ntmps44
  go_wp2_with fail
  refine(rGive_any _ H.out).mono ?_
  rintro x w2 ⟨rfl,hw2⟩
  subst hw2
  exact⟨rfl,.inl ⟨HF.out,rfl,rfl⟩⟩
 ·have hi:((n:Int)==(most:Int))=false:=by simp;omega
  have HF:Hid (n≠most):=hf
  obtain⟨i0,hi0,hz0,hz1,hz2⟩:=info_parts Tryz.infoLQ
  have hln:n<1000:=by omega
  clear hf
  go_enter Tryz.func44,Tryz.ntmps44
  go_wp2_with fail
  refine hp.mono ?_
  rintro x w1 ⟨hg,⟨a,r,hpt,u,v',rfl,⟨z0,z1,z2,m2,d2,z3,z4,z5,m5,d5,z6,m6,d6,z7,m7,d7,z8,m8,d8,rfl,hx⟩,h1⟩|⟨cc,q,hpt,rfl,r,v',h1⟩⟩
  ·have HG:Hid (w.grownBy w1 (some rb)):=hg
   have HPT:Hid (pt=.ok a r):=hpt
   have H1:Hid (Rd w1 rb e bl pr r v'):=h1
   have HX:Hid (PcIs w1 (fun b=>w.heap.size≤b) a [.int .i64 z0,.string z1,.slice z2 m2 d2,.string z3,.int .i64 z4,.slice z5 m5 d5,.slice z6 m6 d6,.slice z7 m7 d7,.slice z8 m8 d8]):=hx
   have HP:Hid (w1.ownsRow B 88 9 (.slice ao n c) n css.flatten):=own_kept HO.out hg hrB
   have hsz1:w.heap.size≤w1.heap.size:=hg.size
   clear hg h1 hx hpt
   go_wp2_with (at_builtin;refine wpList_append_own_at _ rfl _ _ 25 rfl B 88 i0 (.agg #[.int .i64 0,.string ⟨#[]⟩,.slice none 0 0,.string ⟨#[]⟩,.int .i64 0,.slice none 0 0,.slice none 0 0,.slice none 0 0,.slice none 0 0]) 9 168 Tryz.underlying25 hi0 hz0 hz1 hz2 rfl (by decide) _ _ _ rfl (World.ownsRow.alloc HP.out _) ⟨w1.heap.size,0,none⟩ 1 1 [.int .i64 z0,.string z1,.slice z2 m2 d2,.string z3,.int .i64 z4,.slice z5 m5 d5,.slice z6 m6 d6,.slice z7 m7 d7,.slice z8 m8 d8] rfl rfl ?c1 ?c2 ?c3 ?c4 ?c5 ?_)
   case c1=>exact newQ _ _
   case c2=>exact isElPc.one HX.out
   case c3=>unfold maxLen;omega
   case c4=>omega
   case c5=>have:=HB.out;simp;omega
   ·intro u' w2 hown2 hgrow2 _ hat2
    have hba:Below w1.heap.size w1 (w1.alloc (.cells #[.int .i64 z0,.string z1,.slice z2 m2 d2,.string z3,.int .i64 z4,.slice z5 m5 d5,.slice z6 m6 d6,.slice z7 m7 d7,.slice z8 m8 d8] 88)):=(Below.refl _ _).alloc (Nat.le_refl _) _
    have HN:Hid (MoP PcIs w rb e bl pr B 88 9 most n css (.slice ao n c) ts pt (.returned u') w2):=.inr ⟨HF.out,.inr ⟨a,r,u',v',[.int .i64 z0,.string z1,.slice z2 m2 d2,.string z3,.int .i64 z4,.slice z5 m5 d5,.slice z6 m6 d6,.slice z7 m7 d7,.slice z8 m8 d8],_,HPT.out,rfl,HG.out.trans (grown_of_below _ hba),isElPc.keeps HX.out (Keeps.of_below hba),hgrow2,hown2,by simpa using hat2,H1.out.keeps hba H1.out.lt⟩⟩
    clear hown2 hgrow2 hat2 hba
    go_wp2
    go_ret
    exact HN.out
  ·exact⟨rfl,.inr ⟨HF.out,.inl ⟨cc,q,hpt,rfl,hg,r,v',h1⟩⟩⟩
end Go.Proofs.YtepkhlpjgnckkaaGreatDoor
