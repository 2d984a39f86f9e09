/- parse.more, parse.list, parse.enclosed at cloister/api.Expr. And more of the same. -/
import Derived.Test.YtepkhlpjgnckkaaGreatDoorZB4
import Derived.Deep.CutRange
namespace Go.Proofs.YtepkhlpjgnckkaaGreatDoor
set_option maxRecDepth 100000
set_option maxHeartbeats 8000000
open Go.RowKit
open Par (Tok Po Tr nx atP isT ba Res)
theorem Tryz.infoLE:(Tryz.prog.info? 134).map (fun i=>(i.zero,i.size,i.bytes))=some (some (.agg #[.int .i64 0,.int .i64 0,.int .i64 0,.int .i64 0,.string ⟨#[]⟩,.slice none 0 0,.slice none 0 0]),7,96):=by kernel_rfl
def VE (B:Nat)(w':World)(a:Tr)(u:Value):Prop:=∃(z0 z1 z2 z3:Int) (z4:ByteArray) (z5:Option Addr) (m5 d5:Nat) (z6:Option Addr) (m6 d6:Nat),u=.agg #[.int .i64 z0,.int .i64 z1,.int .i64 z2,.int .i64 z3,.string z4,.slice z5 m5 d5,.slice z6 m6 d6]∧ElT w' (fun b=>B≤b) a [.int .i64 z0,.int .i64 z1,.int .i64 z2,.int .i64 z3,.string z4,.slice z5 m5 d5,.slice z6 m6 d6]
theorem newE (w:World)(e:TypeId){x0 x1 x2 x3 x4 x5 x6:Value}:∀j u,([x0,x1,x2,x3,x4,x5,x6]:List Value)[j]? =some u→(w.alloc (.cells #[x0,x1,x2,x3,x4,x5,x6] e)).cell? ((⟨w.heap.size,0,none⟩:Addr).add j)=some u:=by
 intro j u hj
 have e0:(w.alloc (.cells #[x0,x1,x2,x3,x4,x5,x6] e)).cell? ⟨w.heap.size,j,none⟩=(#[x0,x1,x2,x3,x4,x5,x6]:Array Value)[j]? :=World.cell?_alloc_at _ _ _ _ (by simp)
 have e1:(⟨w.heap.size,0,none⟩:Addr).add j=⟨w.heap.size,j,none⟩:=by simp[Addr.add];intro h;exact h.symm
 rw[e1,e0];simpa using hj
theorem moreWE {w:World}{rb e:Nat}{bl pr:Int}{ts:List Tok}{v:Value}(h:Rd w rb e bl pr ts v){B n:Nat}{lv:Value}{css:List (List Value)}(ho:w.ownsRow B 134 7 lv n css.flatten)(hrB:rb<B)(hB:B≤w.heap.size)(most:Nat)(hm:most≤1000)(hacc:n≤most)
 (g:Nat) (fs lb:Array Value) (eg:∀args w,(callFunc g args).run Tryz.prog w=.ok (.enter g args) w) (pt:Res Tr) (hp:Calls Tryz.prog g (fs++lb) w (Post w rb e bl pr pt (VE w.heap.size))):
 Calls Tryz.prog 187 #[.pointer (some ⟨rb,0,none⟩),lv,.int .i64 (most:Int),.func (.func g) fs lb] w (MoP ElT w rb e bl pr B 134 7 most n css lv ts pt):=by
 obtain⟨ao,c,rfl⟩:=own_slice ho
 have H:Hid (Rd w rb e bl pr ts v):=h
 have HO:Hid (w.ownsRow B 134 7 (.slice ao n c) n css.flatten):=ho
 have HB:Hid (B≤w.heap.size):=hB
 clear h ho hB
 by_cases hf:n=most
 ·have hi:((n:Int)==(most:Int))=true:=by simp[hf]
  have HF:Hid (n=most):=hf
  clear hf hp
  go_enter Tryz.func187,Tryz.ntmps187
  go_wp2_with fail
  refine(rGive_any _ H.out).mono ?_
  rintro x w2 ⟨rfl,hw2⟩
  subst hw2
  exact⟨rfl,.inl ⟨HF.out,rfl,rfl⟩⟩
 ·have hi:((n:Int)==(most:Int))=false:=by simp;omega
  have HF:Hid (n≠most):=hf
  obtain⟨i0,hi0,hz0,hz1,hz2⟩:=info_parts Tryz.infoLE
  have hln:n<1000:=by omega
  clear hf
  go_enter Tryz.func187,Tryz.ntmps187
  go_wp2_with fail
  refine hp.mono ?_
  rintro x w1 ⟨hg,⟨a,r,hpt,u,v',rfl,⟨z0,z1,z2,z3,z4,z5,m5,d5,z6,m6,d6,rfl,hx⟩,h1⟩|⟨cc,q,hpt,rfl,r,v',h1⟩⟩
  ·have HG:Hid (w.grownBy w1 (some rb)):=hg
   have HPT:Hid (pt=.ok a r):=hpt
   have H1:Hid (Rd w1 rb e bl pr r v'):=h1
   have HX:Hid (ElT w1 (fun b=>w.heap.size≤b) a [.int .i64 z0,.int .i64 z1,.int .i64 z2,.int .i64 z3,.string z4,.slice z5 m5 d5,.slice z6 m6 d6]):=hx
   have HP:Hid (w1.ownsRow B 134 7 (.slice ao n c) n css.flatten):=own_kept HO.out hg hrB
   have hsz1:w.heap.size≤w1.heap.size:=hg.size
   clear hg h1 hx hpt
   go_wp2_with (at_builtin;refine wpList_append_own_at _ rfl _ _ 132 rfl B 134 i0 (.agg #[.int .i64 0,.int .i64 0,.int .i64 0,.int .i64 0,.string ⟨#[]⟩,.slice none 0 0,.slice none 0 0]) 7 96 Tryz.underlying132 hi0 hz0 hz1 hz2 rfl (by decide) _ _ _ rfl (World.ownsRow.alloc HP.out _) ⟨w1.heap.size,0,none⟩ 1 1 [.int .i64 z0,.int .i64 z1,.int .i64 z2,.int .i64 z3,.string z4,.slice z5 m5 d5,.slice z6 m6 d6] rfl rfl ?c1 ?c2 ?c3 ?c4 ?c5 ?_)
   case c1=>exact newE _ _
   case c2=>exact isElT.one HX.out
   case c3=>unfold maxLen;omega
   case c4=>omega
   case c5=>have:=HB.out;simp;omega
   ·intro u' w2 hown2 hgrow2 _ hat2
    have hba:Below w1.heap.size w1 (w1.alloc (.cells #[.int .i64 z0,.int .i64 z1,.int .i64 z2,.int .i64 z3,.string z4,.slice z5 m5 d5,.slice z6 m6 d6] 134)):=(Below.refl _ _).alloc (Nat.le_refl _) _
    have HN:Hid (MoP ElT w rb e bl pr B 134 7 most n css (.slice ao n c) ts pt (.returned u') w2):=.inr ⟨HF.out,.inr ⟨a,r,u',v',[.int .i64 z0,.int .i64 z1,.int .i64 z2,.int .i64 z3,.string z4,.slice z5 m5 d5,.slice z6 m6 d6],_,HPT.out,rfl,HG.out.trans (grown_of_below _ hba),isElT.keeps HX.out (Keeps.of_below hba),hgrow2,hown2,by simpa using hat2,H1.out.keeps hba H1.out.lt⟩⟩
    clear hown2 hgrow2 hat2 hba
    go_wp2
    go_ret
    exact HN.out
  ·exact⟨rfl,.inr ⟨HF.out,.inl ⟨cc,q,hpt,rfl,hg,r,v',h1⟩⟩⟩
theorem moreE {w:World}{rb e:Nat}{bl pr:Int}{ts:List Tok}{v:Value}(h:Rd w rb e bl pr ts v){B:Nat}{lv:Value}{acc:List Tr}(ho:OwnL ElT w B 134 7 lv acc)(hrB:rb<B)(hB:B≤w.heap.size)(most:Nat)(hm:most≤1000)(hacc:acc.length≤most)
 (g:Nat) (fs lb:Array Value) (eg:∀args w,(callFunc g args).run Tryz.prog w=.ok (.enter g args) w) (pt:Res Tr) (hp:Calls Tryz.prog g (fs++lb) w (Post w rb e bl pr pt (VE w.heap.size))):
 Calls Tryz.prog 187 #[.pointer (some ⟨rb,0,none⟩),lv,.int .i64 (most:Int),.func (.func g) fs lb] w (PostB B w rb e bl pr (if acc.length=most then .no 2 (atP e ts) else pt.bind fun a r=>.ok (acc++[a]) r) (fun w' l u=>OwnL ElT w' B 134 7 u l)):=by
 obtain⟨css,h1,h2,h3⟩:=ho.ex
 exact(moreWE h h1 hrB hB most hm hacc g fs lb eg pt hp).mono fun x w' h9=>mop_of isElT h hrB hB h1 h2 h3 h9
structure BoxE (w:World)(bx rb:Nat)(s:ByteArray)(f:Value):Prop where
 b0:w.heap[bx]? =some (.cells #[.pointer (some ⟨rb,0,none⟩)] 73 (0,0))
 b1:w.heap[bx+1]? =some (.cells #[.string s] 9 (0,0))
 b2:w.heap[bx+2]? =some (.cells #[f] 217 (0,0))
theorem BoxE.fr {w w':World}{B bx rb:Nat}{s:ByteArray}{f:Value}(h:BoxE w bx rb s f)(k:Fr B rb w w')(hB:bx+2<B)(hr:rb<bx):BoxE w' bx rb s f:=
 ⟨(k.block _ (by omega) (by omega)).trans h.b0,(k.block _ (by omega) (by omega)).trans h.b1,(k.block _ (by omega) (by omega)).trans h.b2⟩
theorem BoxE.cells {w:World}{bx rb:Nat}{s:ByteArray}{f:Value}(h:BoxE w bx rb s f):w.cell? ⟨bx,0,none⟩=some (.pointer (some ⟨rb,0,none⟩))∧w.cell? ⟨bx+1,0,none⟩=some (.string s)∧w.cell? ⟨bx+2,0,none⟩=some f:=by
 have:=h.b0;have:=h.b1;have:=h.b2
 refine⟨?_,?_,?_⟩<;>simp[World.cell?, *]
theorem blkE {w:World}{b:Nat}{x0 x1 x2 x3 x4 x5 x6:Value}{e:TypeId}(h:w.heap[b]? =some (.cells #[x0,x1,x2,x3,x4,x5,x6] e (0,0))):(w.cell? ⟨b,0,none⟩=some x0∧w.cell? ⟨b,1,none⟩=some x1∧w.cell? ⟨b,2,none⟩=some x2∧w.cell? ⟨b,3,none⟩=some x3∧w.cell? ⟨b,4,none⟩=some x4∧w.cell? ⟨b,5,none⟩=some x5∧w.cell? ⟨b,6,none⟩=some x6)∧w.frozen? ⟨b,0,none⟩=false∧w.frozen? ⟨b,1,none⟩=false∧w.frozen? ⟨b,2,none⟩=false∧w.frozen? ⟨b,3,none⟩=false∧w.frozen? ⟨b,4,none⟩=false∧w.frozen? ⟨b,5,none⟩=false∧w.frozen? ⟨b,6,none⟩=false:=by
 refine⟨⟨?_,?_,?_,?_,?_,?_,?_⟩,?_,?_,?_,?_,?_,?_,?_⟩<;>simp[World.cell?,World.frozen?,h]
theorem keptE {w:World}{n:Nat}{y0 y1 y2 y3 y4 y5 y6:Value}:w.grownBy ((((((((w).setCell ⟨n,0,none⟩ y0).setCell ⟨n,1,none⟩ y1).setCell ⟨n,2,none⟩ y2).setCell ⟨n,3,none⟩ y3).setCell ⟨n,4,none⟩ y4).setCell ⟨n,5,none⟩ y5).setCell ⟨n,6,none⟩ y6) (some n):=by
 refine grown_set ?_ rfl _
 refine grown_set ?_ rfl _
 refine grown_set ?_ rfl _
 refine grown_set ?_ rfl _
 refine grown_set ?_ rfl _
 refine grown_set ?_ rfl _
 refine grown_set ?_ rfl _
 exact grown_refl _ _
theorem nextE {w:World}{rb e bx:Nat}{bl pr:Int}{ts:List Tok}{v:Value}(h:Rd w rb e bl pr ts v)(s:ByteArray)(hs:s.data.toList≠[])(hi:isT s.data.toList ts=true)(g:Nat)(fs lb:Array Value)(eg:∀args w,(callFunc g args).run Tryz.prog w=.ok (.enter g args) w)(hb:BoxE w bx rb s (.func (.func g) fs lb))(hrx:rb<bx)
 (P:List Tok→Res Tr) (hp:∀w' v',w.grownBy w' (some rb)→Rd w' rb e bl pr ts.tail v'→Calls Tryz.prog g (fs++lb) w' (Post w' rb e bl pr (P ts.tail) (VE w'.heap.size))):
 Calls Tryz.prog 188 #[.pointer (some ⟨bx,0,none⟩),.pointer (some ⟨bx+1,0,none⟩),.pointer (some ⟨bx+2,0,none⟩)] w (Post w rb e bl pr (P ts.tail) (VE w.heap.size)):=by
 obtain⟨w0,hw0⟩:∃w0,w0=w.alloc (.cells #[.int .i64 0,.int .i64 0,.int .i64 0,.int .i64 0,.string ⟨#[]⟩,.slice none 0 0,.slice none 0 0] 134):=⟨_,rfl⟩
 have hl2:=lt_of_block hb.b2
 have hbel:Below w.heap.size w w0:=by rw[hw0];exact(Below.refl _ _).alloc (Nat.le_refl _) _
 have hs0:w0.heap.size=w.heap.size+1:=by rw[hw0];simp
 have hres:w0.heap[w.heap.size]? =some (.cells #[.int .i64 0,.int .i64 0,.int .i64 0,.int .i64 0,.string ⟨#[]⟩,.slice none 0 0,.slice none 0 0] 134 (0,0)):=by rw[hw0];exact heap_at_alloc _ _ _ rfl
 have hb0:BoxE w0 bx rb s (.func (.func g) fs lb):=hb.fr (Fr.of_below hbel) hl2 hrx
 obtain⟨k0,k1,k2⟩:=hb0.cells
 have j0:=hb.cells.1
 have j1:=hb.cells.2.1
 have HM:Hid (Par.must e s.data.toList ts=.ok (nx ts).2.1 ts.tail):=by show _=_;unfold Par.must;rw[if_pos hi]
 have H:Hid (Rd w0 rb e bl pr ts v):=h.keeps hbel h.lt
 have hrl:=h.lt
 have lb0:bx<w.heap.size:=by omega
 have lb1:bx+1<w.heap.size:=by omega
 clear h hb hi
 go_enter Tryz.func188,Tryz.ntmps188
 go_wp2_with fail
 rw[←hw0]
 refine(rMust_any s hs H.out).mono ?_
 rintro x w1 ⟨hg1,⟨a,r,hr,u,v',rfl,rfl,h1⟩|⟨cc,q,hr,rfl,r,v',h1⟩⟩
 ·rw[HM.out] at hr
  cases hr
  have hf1:Fr w0.heap.size rb w0 w1:=Fr.of_grown hg1 (Nat.le_refl _)
  have hb1:BoxE w1 bx rb s (.func (.func g) fs lb):=hb0.fr hf1 (by omega) hrx
  have m2:=hb1.cells.2.2
  have hg01:w.grownBy w1 (some rb):=grown_trans (grown_of_below _ hbel) hg1
  have HP:=hp w1 v' hg01 h1
  have HR1:Hid (w1.heap[w.heap.size]? =some (.cells #[.int .i64 0,.int .i64 0,.int .i64 0,.int .i64 0,.string ⟨#[]⟩,.slice none 0 0,.slice none 0 0] 134 (0,0))):=(hf1.block _ (by omega) (by omega)).trans hres
  have HG:Hid (w.grownBy w1 (some rb)):=hg01
  have hz1:=hg1.size
  clear hg1 hf1 hb1 hg01 h1 k0 k1 k2 j0 j1 hp
  go_wp2_with fail
  refine HP.mono ?_
  rintro x w2 ⟨hg2,⟨a,r,hr,u,v2,rfl,⟨z0,z1,z2,z3,z4,z5,m5,d5,z6,m6,d6,rfl,hx⟩,h2⟩|⟨cc,q,hr,rfl,r,v2,h2⟩⟩
  ·have hres2:w2.heap[w.heap.size]? =some (.cells #[.int .i64 0,.int .i64 0,.int .i64 0,.int .i64 0,.string ⟨#[]⟩,.slice none 0 0,.slice none 0 0] 134 (0,0)):=(hg2.block _ (by omega) (by simp;omega)).trans HR1.out
   have hn2:=lt_of_block hres2
   obtain⟨⟨q0,q1,q2,q3,q4,q5,q6⟩,p0,p1,p2,p3,p4,p5,p6⟩:=blkE hres2
   have HG2:Hid (w.grownBy w2 (some rb)):=grown_trans HG.out hg2
   have HR2:Hid (P ts.tail=.ok a r):=hr
   have H2:Hid (Rd w2 rb e bl pr r v2):=h2
   have HX:Hid (ElT w2 (fun b=>w1.heap.size≤b) a [.int .i64 z0,.int .i64 z1,.int .i64 z2,.int .i64 z3,.string z4,.slice z5 m5 d5,.slice z6 m6 d6]):=hx
   obtain⟨wf,hwf⟩:∃wf,wf=(((((((w2).setCell ⟨w.heap.size,0,none⟩ (.int .i64 z0)).setCell ⟨w.heap.size,1,none⟩ (.int .i64 z1)).setCell ⟨w.heap.size,2,none⟩ (.int .i64 z2)).setCell ⟨w.heap.size,3,none⟩ (.int .i64 z3)).setCell ⟨w.heap.size,4,none⟩ (.string z4)).setCell ⟨w.heap.size,5,none⟩ (.slice z5 m5 d5)).setCell ⟨w.heap.size,6,none⟩ (.slice z6 m6 d6):=⟨_,rfl⟩
   have hkg:w2.grownBy wf (some w.heap.size):=by rw[hwf];exact keptE
   have HV:Hid (ElT wf (fun b=>w.heap.size≤b) a [.int .i64 z0,.int .i64 z1,.int .i64 z2,.int .i64 z3,.string z4,.slice z5 m5 d5,.slice z6 m6 d6]):=isElT.mono (isElT.keeps hx (Keeps.of_grown hkg fun b hb=>by simp;omega)) fun b hb _=>by omega
   have HB2:Below w.heap.size w2 wf:=⟨hkg.os,hkg.tape,hkg.output,hkg.size,fun k hk=>hkg.block k (by omega) (by simp;omega)⟩
   have HGF:Hid (w.grownBy wf (some rb)):=((Fr.of_grown HG2.out (Nat.le_refl _)).trans (Fr.of_below HB2)).grown
   have HRF:Hid (Rd wf rb e bl pr r v2):=h2.keeps HB2 (by omega)
   have HWF:Hid (wf=(((((((w2).setCell ⟨w.heap.size,0,none⟩ (.int .i64 z0)).setCell ⟨w.heap.size,1,none⟩ (.int .i64 z1)).setCell ⟨w.heap.size,2,none⟩ (.int .i64 z2)).setCell ⟨w.heap.size,3,none⟩ (.int .i64 z3)).setCell ⟨w.heap.size,4,none⟩ (.string z4)).setCell ⟨w.heap.size,5,none⟩ (.slice z5 m5 d5)).setCell ⟨w.heap.size,6,none⟩ (.slice z6 m6 d6)):=hwf
   clear hg2 hr h2 hx hres2 HP hkg HB2 hwf
   go_wp2
   refine bodyPost_ret (v:=.agg #[.int .i64 z0,.int .i64 z1,.int .i64 z2,.int .i64 z3,.string z4,.slice z5 m5 d5,.slice z6 m6 d6]) (by simp[results,Tryz.results188,go_sem,q0,q1,q2,q3,q4,q5,q6]) rfl ?_
   rw[←HWF.out]
   exact⟨HGF.out,.inl ⟨_,_,HR2.out,_,_,rfl,⟨z0,z1,z2,z3,z4,z5,m5,d5,z6,m6,d6,rfl,HV.out⟩,HRF.out⟩⟩
  ·exact⟨rfl,grown_trans HG.out hg2,.inr ⟨_,_,hr,rfl,_,_,h2⟩⟩
 ·rw[HM.out] at hr;cases hr
structure LsE (w wr:World)(rb e:Nat)(bl pr:Int)(s:ByteArray)(most:Nat)(P:List Tok→Res Tr)(all:Res (List Tr))(f lv:Value)(acc:List Tr)(ts:List Tok)(v:Value):Prop where
 own:OwnL ElT wr (w.heap.size+3) 134 7 lv acc
 rd:Rd wr rb e bl pr ts v
 fr:Fr w.heap.size rb w wr
 box:BoxE wr w.heap.size rb s f
 big:w.heap.size+3≤wr.heap.size
 len:acc.length≤most
 eq:all=Par.listF e s.data.toList P (most - acc.length) acc ts
theorem listE {w:World}{rb e:Nat}{bl pr:Int}{ts:List Tok}{v:Value}(h:Rd w rb e bl pr ts v)(s:ByteArray)(hs:s.data.toList≠[])(most:Nat)(hm:most≤1000)(hm0:0<most)(g:Nat)(fs lb:Array Value)(eg:∀args w,(callFunc g args).run Tryz.prog w=.ok (.enter g args) w)
 (P:List Tok→Res Tr) (hp:∀w' ts' v',w.grownBy w' (some rb)→Rd w' rb e bl pr ts' v'→Calls Tryz.prog g (fs++lb) w' (Post w' rb e bl pr (P ts') (VE w'.heap.size))):
 Calls Tryz.prog 177 #[.pointer (some ⟨rb,0,none⟩),.string s,.int .i64 (most:Int),.func (.func g) fs lb] w (Post w rb e bl pr (Par.listR e s.data.toList most P ts) (fun w' l u=>OwnL ElT w' (w.heap.size+3) 134 7 u l)):=by
 have hmf:=mkF
 have hrl:=h.lt
 obtain⟨w0,hw0⟩:∃w0,w0=((w.alloc (.cells #[.pointer (some ⟨rb,0,none⟩)] 73)).alloc (.cells #[.string s] 9)).alloc (.cells #[.func (.func g) fs lb] 217):=⟨_,rfl⟩
 have hbel:Below w.heap.size w w0:=by rw[hw0];exact(((Below.refl _ _).alloc (Nat.le_refl _) _).alloc (by simp) _).alloc (by simp;omega) _
 have hs0:w0.heap.size=w.heap.size+3:=by rw[hw0];simp
 have hb0:BoxE w0 w.heap.size rb s (.func (.func g) fs lb):=by
  rw[hw0]
  exact⟨heap_past_alloc (heap_past_alloc (heap_at_alloc _ _ _ rfl)),heap_past_alloc (heap_at_alloc _ _ _ (by simp)),heap_at_alloc _ _ _ (by simp)⟩
 have HB0:Hid (BoxE w0 w.heap.size rb s (.func (.func g) fs lb)):=hb0
 have HBE:Hid (Below w.heap.size w w0):=hbel
 have HP0:=hp w0 ts v (grown_of_below _ hbel) (h.keeps hbel h.lt)
 have HP:Hid (∀w' ts' v',w.grownBy w' (some rb)→Rd w' rb e bl pr ts' v'→Calls Tryz.prog g (fs++lb) w' (Post w' rb e bl pr (P ts') (VE w'.heap.size))):=hp
 clear h hp hb0 hbel
 go_enter Tryz.func177,Tryz.ntmps177
 go_wp2_with fail
 rw[←hw0]
 refine HP0.mono ?_
 rintro x w1 ⟨hg1,⟨a,r,hr,u,v1,rfl,⟨z0,z1,z2,z3,z4,z5,m5,d5,z6,m6,d6,rfl,hx⟩,h1⟩|⟨cc,q,hr,rfl,r,v1,h1⟩⟩
 ·have HR0:Hid (Par.listR e s.data.toList most P ts=Par.listF e s.data.toList P (most - 1) [a] r):=by show _=_;unfold Par.listR;rw[hr];rfl
  have HS:Hid (LsE w (w1.alloc (.cells #[.int .i64 z0,.int .i64 z1,.int .i64 z2,.int .i64 z3,.string z4,.slice z5 m5 d5,.slice z6 m6 d6] 134)) rb e bl pr s most P (Par.listR e s.data.toList most P ts) (.func (.func g) fs lb) (.slice (some ⟨w1.heap.size,0,none⟩) 1 1) [a] r v1):=by
   have hz:=hg1.size
   refine⟨OwnL.one isElT (by rw[hs0] at hx;exact hx) (by omega),h1.keeps ((Below.refl _ _).alloc (Nat.le_refl _) _) h1.lt,(Fr.of_below HBE.out).trans ((Fr.of_grown hg1 (by omega)).trans (Fr.of_below ((Below.refl _ _).alloc (by omega) _))),?_,by simp;omega,hm0,HR0.out⟩
   exact(HB0.out.fr (Fr.of_grown hg1 (Nat.le_refl _)) (by omega) hrl).fr (Fr.of_below ((Below.refl _ _).alloc (Nat.le_refl _) _)) (by omega) hrl
  clear hg1 hx h1 HP0 hr hw0
  go_wp2
  go_loopw [9] (fun lv wr=>∃acc ts' v',LsE w wr rb e bl pr s most P (Par.listR e s.data.toList most P ts) (.func (.func g) fs lb) lv acc ts' v') (fun lv _=>most - lenOf lv)
  case atStart=>exact⟨_,_,_,HS.out⟩
  case round=>
   obtain⟨acc,ts',v',HL0⟩:=hrel
   obtain⟨ao,cc,rfl⟩:=HL0.own.slice
   have HL:Hid (LsE w wr rb e bl pr s most P (Par.listR e s.data.toList most P ts) (.func (.func g) fs lb) (.slice ao acc.length cc) acc ts' v'):=HL0
   obtain⟨k0,k1,k2⟩:=HL0.box.cells
   have hbig:=HL0.big
   have hlen:=HL0.len
   clear HL0 HS
   go_wp2_with fail
   refine(rIs_any s HL.out.rd).mono ?_
   rintro x w2 ⟨rfl,hb2⟩
   have HR2:Hid (Rd w2 rb e bl pr ts' v'):=HL.out.rd.keeps hb2 HL.out.rd.lt
   have HO2:Hid (OwnL ElT w2 (w.heap.size+3) 134 7 (.slice ao acc.length cc) acc):=HL.out.own.below isElT hb2
   have HX2:Hid (BoxE w2 w.heap.size rb s (.func (.func g) fs lb)):=HL.out.box.fr (Fr.of_below hb2) (by omega) hrl
   have HF2:Hid (Fr w.heap.size rb w w2):=HL.out.fr.trans (Fr.of_below (hb2.mono (by omega)))
   have hz2:=hb2.size
   obtain⟨i0,i1,i2⟩:=HX2.out.cells
   clear hb2 k0 k1 k2
   cases hi:isT s.data.toList ts' with
   | false=>
    have HE:Hid (Par.listR e s.data.toList most P ts=.ok acc ts'):=by
     show _=_
     rw[HL.out.eq]
     cases most - acc.length with
     | zero=>unfold Par.listF;rw[if_neg (by simp[hi])]
     | succ m=>unfold Par.listF;rw[if_neg (by simp[hi])]
    clear hi
    go_wp2
    go_ret
    exact⟨HF2.out.grown,.inl ⟨_,_,HE.out,_,_,rfl,HO2.out,HR2.out⟩⟩
   | true=>
    have hbm:w.heap.size+3≤w2.heap.size:=by omega
    have HN:=fun(w':World) (v'':Value) (hg:w2.grownBy w' (some rb)) (hr:Rd w' rb e bl pr ts'.tail v'')=>HP.out w' ts'.tail v'' ((HF2.out.trans (Fr.of_grown hg (by omega))).grown) hr
    have HM:=moreE HR2.out HO2.out (by omega) hbm most hm hlen 188 #[] #[.pointer (some ⟨w.heap.size,0,none⟩),.pointer (some ⟨w.heap.size+1,0,none⟩),.pointer (some ⟨w.heap.size+2,0,none⟩)] (enters_of Tryz.func188 (by kernel_rfl) rfl) (P ts'.tail) (nextE HR2.out s hs hi g fs lb eg HX2.out hrl P HN)
    have HE:Hid (Par.listR e s.data.toList most P ts=if acc.length=most then .no 2 (atP e ts') else(P ts'.tail).bind fun a r=>Par.listF e s.data.toList P (most - (acc.length+1)) (acc++[a]) r):=by
     show _=_
     rw[HL.out.eq]
     by_cases hf:acc.length=most
     ·rw[if_pos hf,show most - acc.length=0 by omega];unfold Par.listF;rw[if_pos hi]
     ·rw[if_neg hf,show most - acc.length=(most - (acc.length+1))+1 by omega]
      conv=>lhs;unfold Par.listF
      rw[if_pos hi]
    clear HN hi
    go_wp2_with fail
    refine HM.mono ?_
    rintro x w3 ⟨hf3,⟨l,r,hr,u,v3,rfl,ho3,h3⟩|⟨c3,q3,hr,rfl,r,v3,h3⟩⟩
    ·by_cases hf:acc.length=most
     ·rw[if_pos hf] at hr;cases hr
     ·rw[if_neg hf] at hr
      obtain⟨a2,r2,hq,hr⟩:=Par.bind_ok hr
      cases hr
      have HS3:Hid (LsE w w3 rb e bl pr s most P (Par.listR e s.data.toList most P ts) (.func (.func g) fs lb) u (acc++[a2]) r v3):=by
       refine⟨ho3,h3,HF2.out.trans (hf3.mono (by omega)),HX2.out.fr hf3 (by omega) hrl,by have:=hf3.size;omega,by simp;omega,?_⟩
       rw[HE.out,if_neg hf,hq,List.length_append];rfl
      have HL3:Hid (lenOf u=acc.length+1):=by show _=_;rw[ho3.len];simp
      clear hf3 ho3 h3 hq
      go_wp2
      go_roundw
      case rel=>exact⟨_,_,_,HS3.out⟩
      case measure=>rw[HL3.out];simp only[lenOf];omega
    ·have HG3:Hid (w.grownBy w3 (some rb)):=(HF2.out.trans (hf3.mono (by omega))).grown
     refine⟨rfl,HG3.out,.inr ⟨c3,q3,?_,rfl,_,_,h3⟩⟩
     rw[HE.out]
     by_cases hf:acc.length=most
     ·rw[if_pos hf] at hr⊢;cases hr;rfl
     ·rw[if_neg hf] at hr⊢
      cases hq:P ts'.tail with
      | ok a2 r2=>rw[hq] at hr;cases hr
      | no c2 q2=>rw[hq] at hr;cases hr;rfl
 ·have e1:Par.listR e s.data.toList most P ts=.no cc q:=by unfold Par.listR;rw[hr];rfl
  exact⟨rfl,grown_trans (grown_of_below _ HBE.out) hg1,.inr ⟨_,_,e1,rfl,_,_,h1⟩⟩
theorem enclE {w:World}{rb e:Nat}{bl pr:Int}{ts:List Tok}{v:Value}(h:Rd w rb e bl pr ts v)(o s c:ByteArray)(hO:o.data.toList≠[])(hs:s.data.toList≠[])(hc:c.data.toList≠[])(most:Nat)(hm:most≤1000)(hm0:0<most)(g:Nat)(fs lb:Array Value)(eg:∀args w,(callFunc g args).run Tryz.prog w=.ok (.enter g args) w)
 (P:List Tok→Res Tr) (hp:∀w' ts' v',w.grownBy w' (some rb)→Rd w' rb e bl pr ts' v'→Calls Tryz.prog g (fs++lb) w' (Post w' rb e bl pr (P ts') (VE w'.heap.size))):
 Calls Tryz.prog 166 #[.pointer (some ⟨rb,0,none⟩),.string o,.string s,.string c,.int .i64 (most:Int),.func (.func g) fs lb] w (Post w rb e bl pr (Par.encl e o.data.toList s.data.toList c.data.toList most P ts) (fun w' l u=>∃B,w.heap.size≤B∧OwnL ElT w' B 134 7 u l)):=by
 have hrl:=h.lt
 have H:Hid (Rd w rb e bl pr ts v):=h
 have HP:Hid (∀w' ts' v',w.grownBy w' (some rb)→Rd w' rb e bl pr ts' v'→Calls Tryz.prog g (fs++lb) w' (Post w' rb e bl pr (P ts') (VE w'.heap.size))):=hp
 have HE0:Hid (∀x y,Par.must e o.data.toList ts=.ok x y→Par.encl e o.data.toList s.data.toList c.data.toList most P ts=(if isT c.data.toList y=true then Res.ok [] y else Par.listR e s.data.toList most P y).bind fun l r2=>(Par.must e c.data.toList r2).bind fun _ r3=>.ok l r3):=fun x y hxy=>by show Par.encl _ _ _ _ _ _ _=_;unfold Par.encl;rw[hxy];rfl
 have HEN:Hid (∀x y,Par.must e o.data.toList ts=.no x y→Par.encl e o.data.toList s.data.toList c.data.toList most P ts=.no x y):=fun x y hxy=>by show Par.encl _ _ _ _ _ _ _=_;unfold Par.encl;rw[hxy];rfl
 clear h hp
 go_enter Tryz.func166,Tryz.ntmps166
 go_wp2_with fail
 refine(rMust_any o hO H.out).mono ?_
 rintro x w1 ⟨hg1,⟨a1,r1,hr1,u1,v1,rfl,rfl,h1⟩|⟨c1,q1,hr1,rfl,r1,v1,h1⟩⟩
 ·have HE1:=HE0.out _ _ hr1
  have H1:Hid (Rd w1 rb e bl pr r1 v1):=h1
  have HG1:Hid (w.grownBy w1 (some rb)):=hg1
  have hz1:=hg1.size
  clear h1 hg1 HE0 HEN hr1
  go_wp2_with fail
  refine(rIs_any c H1.out).mono ?_
  rintro x w2 ⟨rfl,hb2⟩
  have H2:Hid (Rd w2 rb e bl pr r1 v1):=H1.out.keeps hb2 H1.out.lt
  have HG2:Hid (w.grownBy w2 (some rb)):=grown_below HG1.out hb2
  have hz2:=hb2.size
  clear hb2 H1
  cases hi:isT c.data.toList r1 with
  | true=>
   rw[if_pos hi] at HE1
   have HE2:Hid (∀z y,Par.must e c.data.toList r1=.ok z y→Par.encl e o.data.toList s.data.toList c.data.toList most P ts=.ok [] y):=fun z y hzy=>by rw[HE1];simp only[Par.Res.bind];rw[hzy]
   have HM:Hid (Par.must e c.data.toList r1=.ok (nx r1).2.1 r1.tail):=by show _=_;unfold Par.must;rw[if_pos hi]
   clear HE1 hi
   go_wp2_with fail
   refine(rMust_any c hc H2.out).mono ?_
   rintro x w3 ⟨hg3,⟨a3,r3,hr3,u3,v3,rfl,rfl,h3⟩|⟨c3,q3,hr3,rfl,r3,v3,h3⟩⟩
   ·have HEE:=HE2.out _ _ hr3
    have HG3:Hid (w.grownBy w3 (some rb)):=grown_trans HG2.out hg3
    have H3:Hid (Rd w3 rb e bl pr r3 v3):=h3
    have HF:Hid (Par.encl e o.data.toList s.data.toList c.data.toList most P ts=.ok [] r3):=HEE
    clear hg3 h3 hr3 HEE HE2 HM
    go_wp2
    go_ret
    exact⟨HG3.out,.inl ⟨_,_,HF.out,_,_,rfl,⟨w.heap.size,Nat.le_refl _,OwnL.nil _ _ _ _ _⟩,H3.out⟩⟩
   ·rw[HM.out] at hr3;cases hr3
  | false=>
   rw[if_neg (by simp[hi])] at HE1
   have HL:=listE H2.out s hs most hm hm0 g fs lb eg P (fun w' ts' v' hg hr=>HP.out w' ts' v' (grown_trans HG2.out hg) hr)
   have HEQ:Hid (Par.encl e o.data.toList s.data.toList c.data.toList most P ts=(Par.listR e s.data.toList most P r1).bind fun l r2=>(Par.must e c.data.toList r2).bind fun _ r3=>.ok l r3):=HE1
   clear HE1 hi
   go_wp2_with fail
   refine HL.mono ?_
   rintro x w3 ⟨hg3,⟨l,r3,hr3,u3,v3,rfl,ho3,h3⟩|⟨c3,q3,hr3,rfl,r3,v3,h3⟩⟩
   ·obtain⟨ao,cc,rfl⟩:=ho3.slice
    have HE3:=HEQ.out
    rw[hr3] at HE3
    have HE4:Hid (Par.encl e o.data.toList s.data.toList c.data.toList most P ts=(Par.must e c.data.toList r3).bind fun _ r4=>.ok l r4):=HE3
    have HO3:Hid (OwnL ElT w3 (w2.heap.size+3) 134 7 (.slice ao l.length cc) l):=ho3
    have H3:Hid (Rd w3 rb e bl pr r3 v3):=h3
    have HG3:Hid (w.grownBy w3 (some rb)):=grown_trans HG2.out hg3
    clear HE3 ho3 h3 hg3 hr3 HEQ HL
    go_wp2_with fail
    refine(rMust_any c hc H3.out).mono ?_
    rintro x w4 ⟨hg4,⟨a4,r4,hr4,u4,v4,rfl,rfl,h4⟩|⟨c4,q4,hr4,rfl,r4,v4,h4⟩⟩
    ·have HF:Hid (Par.encl e o.data.toList s.data.toList c.data.toList most P ts=.ok l r4):=by show _=_;rw[HE4.out,hr4];rfl
     have HO4:Hid (OwnL ElT w4 (w2.heap.size+3) 134 7 (.slice ao l.length cc) l):=HO3.out.grown isElT hg4 (by omega)
     have H4:Hid (Rd w4 rb e bl pr r4 v4):=h4
     have HG4:Hid (w.grownBy w4 (some rb)):=grown_trans HG3.out hg4
     clear hr4 hg4 h4
     go_wp2
     go_ret
     exact⟨HG4.out,.inl ⟨_,_,HF.out,_,_,rfl,⟨w2.heap.size+3,by omega,HO4.out⟩,H4.out⟩⟩
    ·refine⟨rfl,grown_trans HG3.out hg4,.inr ⟨c4,q4,?_,rfl,_,_,h4⟩⟩
     rw[HE4.out,hr4];rfl
   ·refine⟨rfl,grown_trans HG2.out hg3,.inr ⟨c3,q3,?_,rfl,_,_,h3⟩⟩
    rw[HEQ.out,hr3];rfl
 ·exact⟨rfl,hg1,.inr ⟨_,_,HEN.out _ _ hr1,rfl,_,_,h1⟩⟩
open Par (Tok Po Tr nx atP isT ba Res Stm Prm Chn Prc Prg)
theorem sameLZ (lo:Option Addr)(lc:Nat)(w:World):Calls Tryz.prog 189 #[.slice lo 0 lc,.slice none 0 0] w fun x w'=>x=.returned (.bool true)∧w'=w:=by
 have HEF:Calls Tryz.prog 199 #[.slice lo 0 lc,.slice none 0 0,.func (.func 200) #[] #[]] w fun x w'=>x=.returned (.bool true)∧w'=w:=by
  go_enter Tryz.func199,Tryz.ntmps199
  go_wp2
  go_loopw [17] (fun i wr=>i=.int .i64 0∧wr=w) (fun _ _=>0)
  case atStart=>exact⟨rfl,rfl⟩
  case round=>
   obtain⟨rfl,rfl⟩:=hrel
   go_wp2
   go_ret
   exact⟨rfl,rfl⟩
 go_enter Tryz.func189,Tryz.ntmps189
 go_wp2_with fail
 refine HEF.mono ?_
 rintro x w1 ⟨rfl,hw⟩
 subst hw
 go_wp2
 go_ret
 exact⟨rfl,rfl⟩
theorem addZ (M:Nat)(ao:Option Addr)(ac:Nat)(w:World):Calls Tryz.prog 190 #[.pointer (some ⟨M,0,none⟩),.slice ao 0 ac,.slice none 0 0] w fun x w'=>x=.returned (.bool true)∧w'=w:=by
 go_enter Tryz.func190,Tryz.ntmps190
 go_wp2
 go_ret
 exact⟨rfl,rfl⟩
theorem allZ (M:Nat)(f:Value)(w:World)(hM:w.heap[M]? =some (.cells #[.slice none 0 0,.map none,.slice none 0 0,.map none] 257 (0,0))):Calls Tryz.prog 193 #[.pointer (some ⟨M,0,none⟩),f] w fun x w'=>x=.returned (.bool true)∧w'=w:=by
 have hlt:=lt_of_block hM
 have f2:w.cell? ⟨M,0,none⟩=some (.slice none 0 0):=by simp[World.cell?,hM]
 clear hM
 go_enter Tryz.func193,Tryz.ntmps193
 go_wp2
 go_loopw [] (fun wr=>wr=w) (fun _=>0)
 case atStart=>rfl
 case round=>
  subst hrel
  go_wp2
  go_ret
  exact⟨rfl,rfl⟩
theorem allZS (M:Nat)(f:Value)(w:World)(hM:w.heap[M]? =some (.cells #[.slice none 0 0,.map none,.slice none 0 0,.map none] 257 (0,0))):Calls Tryz.prog 191 #[.pointer (some ⟨M,2,none⟩),f] w fun x w'=>x=.returned (.bool true)∧w'=w:=by
 have hlt:=lt_of_block hM
 have f2:w.cell? ⟨M,2,none⟩=some (.slice none 0 0):=by simp[World.cell?,hM]
 clear hM
 go_enter Tryz.func191,Tryz.ntmps191
 go_wp2
 go_loopw [] (fun wr=>wr=w) (fun _=>0)
 case atStart=>rfl
 case round=>
  subst hrel
  go_wp2
  go_ret
  exact⟨rfl,rfl⟩
theorem restZ (M:Nat)(w:World)(hM:w.heap[M]? =some (.cells #[.slice none 0 0,.map none,.slice none 0 0,.map none] 257 (0,0))):Calls Tryz.prog 180 #[.pointer (some ⟨M,0,none⟩)] w fun x w'=>x=.returned (.bool true)∧w'=w:=by
 have hmf:=mkF
 have H1:=fun f=>allZS M f w hM
 have H2:=fun f=>allZ M f w hM
 have hlt:=lt_of_block hM
 clear hM
 go_enter Tryz.func180,Tryz.ntmps180
 go_wp2_with fail
 refine(H1 _).mono ?_
 rintro x w1 ⟨rfl,hw⟩
 have hws:=hw.symm;subst hws
 go_wp2_with fail
 refine(H2 _).mono ?_
 rintro x w1 ⟨rfl,hw⟩
 have hws:=hw.symm;subst hws
 go_wp2
 go_ret
 exact⟨rfl,rfl⟩
theorem sameZ (lo:Option Addr)(lc:Nat)(ao:Option Addr)(ac:Nat)(p:Int)(w:World):Calls Tryz.prog 169 #[.agg #[.int .i64 0,.int .i64 p,.int .i64 0,.int .i64 0,.string ⟨#[]⟩,.slice lo 0 lc,.slice ao 0 ac],.agg #[.int .i64 0,.int .i64 0,.int .i64 0,.int .i64 0,.string ⟨#[]⟩,.slice none 0 0,.slice none 0 0]] w fun x w'=>x=.returned (.bool true)∧Below w.heap.size w w':=by
 obtain⟨w3,hw3⟩:∃w3,w3=((w.alloc (.cells #[.int .i64 0,.int .i64 p,.int .i64 0,.int .i64 0,.string ⟨#[]⟩,.slice lo 0 lc,.slice ao 0 ac] 134)).alloc (.cells #[.int .i64 0,.int .i64 0,.int .i64 0,.int .i64 0,.string ⟨#[]⟩,.slice none 0 0,.slice none 0 0] 134)).alloc (.cells #[.slice none 0 0,.map none,.slice none 0 0,.map none] 257):=⟨_,rfl⟩
 have hb:Below w.heap.size w w3:=by rw[hw3];exact(((Below.refl _ _).alloc (Nat.le_refl _) _).alloc (by simp) _).alloc (by simp;omega) _
 have k0:w3.heap[w.heap.size]? =some (.cells #[.int .i64 0,.int .i64 p,.int .i64 0,.int .i64 0,.string ⟨#[]⟩,.slice lo 0 lc,.slice ao 0 ac] 134 (0,0)):=by rw[hw3];exact heap_past_alloc (heap_past_alloc (heap_at_alloc _ _ _ rfl))
 have k1:w3.heap[w.heap.size+1]? =some (.cells #[.int .i64 0,.int .i64 0,.int .i64 0,.int .i64 0,.string ⟨#[]⟩,.slice none 0 0,.slice none 0 0] 134 (0,0)):=by rw[hw3];exact heap_past_alloc (heap_at_alloc _ _ _ (by simp))
 have k2:w3.heap[w.heap.size+2]? =some (.cells #[.slice none 0 0,.map none,.slice none 0 0,.map none] 257 (0,0)):=by rw[hw3];exact heap_at_alloc _ _ _ (by simp)
 have HX:Calls Tryz.prog 179 #[.pointer (some ⟨w.heap.size+2,0,none⟩),.pointer (some ⟨w.heap.size,0,none⟩),.pointer (some ⟨w.heap.size+1,0,none⟩)] w3 fun x w'=>x=.returned (.bool true)∧Below w3.heap.size w3 w'∧w'.heap[w.heap.size+2]? =some (.cells #[.slice none 0 0,.map none,.slice none 0 0,.map none] 257 (0,0)):=by
  have K2:Hid (w3.heap[w.heap.size+2]? =some (.cells #[.slice none 0 0,.map none,.slice none 0 0,.map none] 257 (0,0))):=k2
  obtain⟨⟨a0,a1,a2,a3,a4,a5,a6⟩,_⟩:=blkE k0
  obtain⟨⟨b0,b1,b2,b3,b4,b5,b6⟩,_⟩:=blkE k1
  have l0:=lt_of_block k0
  have l1:=lt_of_block k1
  have l2:=lt_of_block k2
  have HL:=fun W=>sameLZ lo lc W
  have HA:=fun W=>addZ (w.heap.size+2) ao ac W
  clear hw3 hb k0 k1 k2
  go_enter Tryz.func179,Tryz.ntmps179
  go_upto_region 1 with fail
  simp only[List.append]
  go_quiet ((first |(go_at_call 189;exact Calls.quiet_of_same (HL _))|(go_at_call 190;exact Calls.quiet_of_same (HA _))))
  go_wp2
  go_ret
  exact⟨rfl,⟨rfl,rfl,rfl,Nat.le_refl _,fun _ _=>rfl⟩,K2.out⟩
 have HR:=fun W=>restZ (w.heap.size+2) W
 have HB:Hid (Below w.heap.size w w3):=hb
 clear hb k0 k1 k2
 go_enter Tryz.func169,Tryz.ntmps169
 go_wp2_with fail
 rw[←hw3]
 clear hw3
 refine HX.mono ?_
 rintro x w1 ⟨rfl,hb1,hm1⟩
 have HB1:Hid (Below w.heap.size w w1):=HB.out.trans (hb1.mono HB.out.size)
 have HR1:=HR w1 hm1
 clear hb1 hm1 HR HX
 go_wp2_with fail
 refine HR1.mono ?_
 rintro x w2 ⟨rfl,hw⟩
 have hws:=hw.symm;subst hws
 go_wp2
 go_ret
 exact⟨rfl,HB1.out⟩
theorem hasTC (k:Int)(hk:k=1∨k=2)(w:World):Calls Tryz.prog 47 #[.int .i64 k] w fun x w'=>x=.returned (.bool true)∧w'=w:=by
 rcases hk with rfl | rfl
 all_goals
  go_enter Tryz.func47,Tryz.ntmps47
  go_wp2
  go_ret
  exact⟨rfl,rfl⟩
theorem nameT (s:ByteArray)(w:World)(hs:s.size≤maxLen)(h:Par.nameOK s=true):Calls Tryz.prog 48 #[.string s] w fun x w'=>x=.returned (.bool true)∧w'=w:=by
 have hn:=scanName_any s w (by unfold maxLen at hs;omega)
 rw[show Lex.nameF s.data.toList=Par.nameOK s from rfl,h] at hn
 exact hn
theorem labFT {w:World}{S:Nat→Prop}{v:Value}{l:List Po}(h:LabV w S v l)(hl:Par.labOK l=true):Calls Tryz.prog 49 #[v] w fun x w'=>x=.returned (.bool true)∧Below w.heap.size w w':=by
 have:=labFC h
 rw[hl] at this
 exact this
theorem nmsC {w:World}{m b off:Nat}{k p:Int}{s o:ByteArray}{d:Bool}{l:List Po}{e:Tr}{a c:List Stm}(hX:Par.StX (m+1) (.mk k p s o d l e a c))(hs:s.size≤maxLen)(ho:o.size≤maxLen)(c0:w.cell? ⟨b,off,none⟩=some (.int .i64 k))(c2:w.cell? ⟨b,off+2,none⟩=some (.string s))(c3:w.cell? ⟨b,off+3,none⟩=some (.string o))(hlt:b<w.heap.size):
 Calls Tryz.prog 153 #[.pointer (some ⟨b,off,none⟩)] w fun x w'=>x=.returned (.bool true)∧w'=w:=by
 have hlt':=hlt
 clear hlt
 rcases stx_names hX with⟨rfl,h1,h2,_⟩|⟨hk,h1,rfl,_⟩|⟨hk,rfl,rfl,_⟩|⟨rfl,rfl,rfl,_⟩
 ·have H1:=nameT s w hs h1
  have H2:=nameT o w ho h2
  clear hX h1 h2
  go_enter Tryz.func153,Tryz.ntmps153
  go_wp2_with fail
  refine H1.mono ?_
  rintro x w1 ⟨rfl,hw⟩
  have hws:=hw.symm;subst hws
  go_wp2_with fail
  refine H2.mono ?_
  rintro x w1 ⟨rfl,hw⟩
  have hws:=hw.symm;subst hws
  go_wp2
  go_ret
  exact⟨rfl,rfl⟩
 ·have H1:=nameT s w hs h1
  have c3':w.cell? ⟨b,off+3,none⟩=some (.string ⟨#[]⟩):=c3
  clear hX h1 c3
  rcases hk with rfl | rfl | rfl
  all_goals
   go_enter Tryz.func153,Tryz.ntmps153
   go_wp2_with fail
   refine H1.mono ?_
   rintro x w1 ⟨rfl,hw⟩
   have hws:=hw.symm;subst hws
   go_wp2
   go_ret
   exact⟨rfl,rfl⟩
 ·have c2':w.cell? ⟨b,off+2,none⟩=some (.string ⟨#[]⟩):=c2
  have c3':w.cell? ⟨b,off+3,none⟩=some (.string ⟨#[]⟩):=c3
  clear hX c2 c3
  rcases hk with rfl | rfl | rfl
  all_goals
   go_enter Tryz.func153,Tryz.ntmps153
   go_wp2
   go_ret
   exact⟨rfl,rfl⟩
 ·have c2':w.cell? ⟨b,off+2,none⟩=some (.string ⟨#[]⟩):=c2
  have c3':w.cell? ⟨b,off+3,none⟩=some (.string ⟨#[]⟩):=c3
  clear hX c2 c3
  go_enter Tryz.func153,Tryz.ntmps153
  go_wp2
  go_ret
  exact⟨rfl,rfl⟩
noncomputable def dB (p:Prop):Bool:=@decide p (Classical.propDecidable p)
theorem dB_true {p:Prop}(h:p):dB p=true:=by unfold dB;exact @decide_eq_true p (Classical.propDecidable p) h
theorem dB_false {p:Prop}(h:¬p):dB p=false:=by unfold dB;exact @decide_eq_false p (Classical.propDecidable p) h
theorem lk0 {w0 W:World}{B B2 b off:Nat}{K:List PK}{e:Tr}{cs:List Value}(hB:w0.heap.size≤B)(hlv:LevAt w0 w0.heap.size)(hW:Below w0.heap.size w0 W)(hS:SetP W B K)(hI:InvP w0 K 0)(hc:ExAt w0 b off cs)(he:TrIs w0 (fun b=>b<w0.heap.size) e cs)(W1:World)(h1:Below W.heap.size W W1):
 Calls Tryz.prog 170 #[.agg #[.map (some B),.map (some B2)],.pointer (some ⟨b,off,none⟩),.int .i64 0] W1 fun x W'=>∃K',x=.returned (.bool (Par.formD 12 e))∧SetP W' B K'∧W1.grownBy W' (some B)∧(Par.formD 12 e=true→InvP w0 K' 0):=by
 have hS1:SetP W1 B K:=hS.keeps (h1.block _ hS.lt) fun p hp=>h1.block _ (by obtain⟨cs,e,hh⟩:=hS.pl hp;exact lt_of_block hh)
 refine(look_all (B2:=B2) hB hlv 11 0 rfl e W1 b off cs K (hW.trans (h1.mono hW.size)) hS1 hI hc he).mono ?_
 rintro x W' ⟨K',e1,e2,e3,_,e5⟩
 exact⟨K',e1,e2,e3,e5⟩
theorem ex_sub {w:World}{b off:Nat}{x0 x1 x2 x3 x4 x5 y0 y1 y2 y3 y4 y5 y6 u v:Value}(h:ExAt w b off [x0,x1,x2,x3,x4,x5,y0,y1,y2,y3,y4,y5,y6,u,v]):ExAt w b (off+6) [y0,y1,y2,y3,y4,y5,y6]:=
 ⟨h.lt,fun j z hz=>by
   match j,hz with
   | 0,hz=>exact h.cell 6 z hz
   | 1,hz=>exact h.cell 7 z hz
   | 2,hz=>exact h.cell 8 z hz
   | 3,hz=>exact h.cell 9 z hz
   | 4,hz=>exact h.cell 10 z hz
   | 5,hz=>exact h.cell 11 z hz
   | 6,hz=>exact h.cell 12 z hz
   | j+7,hz=>simp at hz⟩
theorem operC {w0 W:World}{B B2 b off m:Nat}{K:List PK}{k p:Int}{s o:ByteArray}{d:Bool}{l:List Po}{e:Tr}{a c:List Stm}{lo:Option Addr}{ln lc:Nat}{z0 z1 z2 z3:Int}{z4:ByteArray}{z5:Option Addr}{m5 d5:Nat}{z6:Option Addr}{m6 d6:Nat}{av bv:Value}(hB:w0.heap.size≤B)(hlv:LevAt w0 w0.heap.size)(hX:Par.StX (m+1) (.mk k p s o d l e a c))(hW:Below w0.heap.size w0 W)(hS:SetP W B K)(hI:InvP w0 K 0)
 (hc:ExAt w0 b off [.int .i64 k,.int .i64 p,.string s,.string o,.bool d,.slice lo ln lc,.int .i64 z0,.int .i64 z1,.int .i64 z2,.int .i64 z3,.string z4,.slice z5 m5 d5,.slice z6 m6 d6,av,bv]) (he:TrIs w0 (fun b=>b<w0.heap.size) e [.int .i64 z0,.int .i64 z1,.int .i64 z2,.int .i64 z3,.string z4,.slice z5 m5 d5,.slice z6 m6 d6]):
 Calls Tryz.prog 154 #[.agg #[.map (some B),.map (some B2)],.pointer (some ⟨b,off,none⟩)] W fun x W'=>∃K',x=.returned (.bool (dB (k≠6→Par.formD 12 e=true)))∧SetP W' B K'∧W.grownBy W' (some B)∧((k≠6→Par.formD 12 e=true)→InvP w0 K' 0):=by
 have hBW:=hS.lt
 have hcW:ExAt W b off [.int .i64 k,.int .i64 p,.string s,.string o,.bool d,.slice lo ln lc,.int .i64 z0,.int .i64 z1,.int .i64 z2,.int .i64 z3,.string z4,.slice z5 m5 d5,.slice z6 m6 d6,av,bv]:=hc.keeps hW.size (hW.block _ hc.lt)
 have hlt:=hcW.lt
 obtain⟨W0,hW0⟩:∃W0,W0=W.alloc (.cells #[.map (some B),.map (some B2)] 124):=⟨_,rfl⟩
 have hb0:Below W.heap.size W W0:=by rw[hW0];exact(Below.refl _ _).alloc (Nat.le_refl _) _
 have hk0:W0.heap[W.heap.size]? =some (.cells #[.map (some B),.map (some B2)] 124 (0,0)):=by rw[hW0];exact heap_at_alloc _ _ _ rfl
 have HLK:Hid (∀W1,Below W.heap.size W W1→Calls Tryz.prog 170 #[.agg #[.map (some B),.map (some B2)],.pointer (some ⟨b,off+6,none⟩),.int .i64 0] W1 fun x W'=>∃K',x=.returned (.bool (Par.formD 12 e))∧SetP W' B K'∧W1.grownBy W' (some B)∧(Par.formD 12 e=true→InvP w0 K' 0)):=fun W1 h1=>lk0 hB hlv hW hS hI (ex_sub hc) he W1 h1
 have hc0:ExAt W0 b off [.int .i64 k,.int .i64 p,.string s,.string o,.bool d,.slice lo ln lc,.int .i64 z0,.int .i64 z1,.int .i64 z2,.int .i64 z3,.string z4,.slice z5 m5 d5,.slice z6 m6 d6,av,bv]:=hcW.keeps hb0.size (hb0.block _ hlt)
 have hbl:b<W0.heap.size:=hc0.lt
 have c0:W0.cell? ⟨b,off,none⟩=some (.int .i64 k):=hc0.cell 0 _ rfl
 have y0:W0.cell? ⟨b,off+6,none⟩=some (.int .i64 z0):=hc0.cell 6 _ rfl
 have y1:W0.cell? ⟨b,off+6+1,none⟩=some (.int .i64 z1):=hc0.cell 7 _ rfl
 have y2:W0.cell? ⟨b,off+6+2,none⟩=some (.int .i64 z2):=hc0.cell 8 _ rfl
 have y3:W0.cell? ⟨b,off+6+3,none⟩=some (.int .i64 z3):=hc0.cell 9 _ rfl
 have y4:W0.cell? ⟨b,off+6+4,none⟩=some (.string z4):=hc0.cell 10 _ rfl
 have y5:W0.cell? ⟨b,off+6+5,none⟩=some (.slice z5 m5 d5):=hc0.cell 11 _ rfl
 have y6:W0.cell? ⟨b,off+6+6,none⟩=some (.slice z6 m6 d6):=hc0.cell 12 _ rfl
 have cw0:W.cell? ⟨b,off,none⟩=some (.int .i64 k):=hcW.cell 0 _ rfl
 have yw0:W.cell? ⟨b,off+6,none⟩=some (.int .i64 z0):=hcW.cell 6 _ rfl
 have yw1:W.cell? ⟨b,off+6+1,none⟩=some (.int .i64 z1):=hcW.cell 7 _ rfl
 have yw2:W.cell? ⟨b,off+6+2,none⟩=some (.int .i64 z2):=hcW.cell 8 _ rfl
 have yw3:W.cell? ⟨b,off+6+3,none⟩=some (.int .i64 z3):=hcW.cell 9 _ rfl
 have yw4:W.cell? ⟨b,off+6+4,none⟩=some (.string z4):=hcW.cell 10 _ rfl
 have yw5:W.cell? ⟨b,off+6+5,none⟩=some (.slice z5 m5 d5):=hcW.cell 11 _ rfl
 have yw6:W.cell? ⟨b,off+6+6,none⟩=some (.slice z6 m6 d6):=hcW.cell 12 _ rfl
 have HB0:Hid (Below W.heap.size W W0):=hb0
 obtain⟨l0,l1⟩:=blkL hk0
 have hlk:=lt_of_block hk0
 have hLB:W.heap.size≠B:=by omega
 have HSW:Hid (SetP W B K∧InvP w0 K 0):=⟨hS,hI⟩
 have hbB:b≠B:=by have:=hc.lt;omega
 by_cases hk6:k=6
 ·subst hk6
  obtain⟨rfl⟩:e=Par.noE:=by rcases stx_names hX with⟨_,_,_,h⟩|⟨h,_⟩|⟨h,_⟩|⟨h,_⟩<;>first | exact h | omega
  cases he with
  | mk h1 h2 h3 h4 h5=>
   obtain⟨q5,e5,h6⟩:=h2.val
   obtain⟨q6,e6,h7⟩:=h3.val
   rw[h4] at h7
   simp only[List.length_nil,Value.slice.injEq] at h6 h7
   obtain⟨rfl,rfl,rfl⟩:=h6
   obtain⟨rfl,rfl,rfl⟩:=h7
   have y4':W.cell? ⟨b,off+6+4,none⟩=some (.string ⟨#[]⟩):=yw4
   have HZ:=sameZ z5 d5 z6 d6 0 W0
   clear hX hS hI hc hcW hc0 h1 h2 h3 h4 h5 hW hlv hB hb0 hk0 y4 yw4
   go_enter Tryz.func154,Tryz.ntmps154
   go_wp2_with fail
   rw[←hW0]
   refine HZ.mono ?_
   rintro x W1 ⟨rfl,hb1⟩
   have HB1:Hid (Below W.heap.size W W1):=HB0.out.trans (hb1.mono HB0.out.size)
   clear hb1 hW0
   go_wp2
   go_ret
   refine⟨K,congrArg (fun b=>Ending.returned (Value.bool b)) (dB_true (fun h=>absurd rfl h)).symm,?_,grown_of_below _ HB1.out,fun _=>HSW.out.2⟩
   exact HSW.out.1.keeps (HB1.out.block _ HSW.out.1.lt) fun p hp=>HB1.out.block _ (by obtain⟨cs,e,hh⟩:=HSW.out.1.pl hp;exact lt_of_block hh)
 ·have b6:(k==6)=false:=by simp[hk6]
  have HK6:Hid (k≠6):=hk6
  have hLKD:=HLK.out W0.drew (below_dn hb0 1)
  obtain⟨fo,hfo⟩:∃fo,Par.formD 12 e=fo:=⟨_,rfl⟩
  have HFO:Hid (Par.formD 12 e=fo):=hfo
  rw[hfo] at hLKD
  have hdB:dB (k≠6→Par.formD 12 e=true)=fo:=by
   cases fo with
   | true=>exact dB_true fun _=>hfo
   | false=>exact dB_false fun h=>by rw[h hk6] at hfo;cases hfo
  rw[hdB]
  have HC:Hid (Calls Tryz.prog 170 #[.agg #[.map (some B),.map (some B2)],.pointer (some ⟨b,off+6,none⟩),.int .i64 0] W0.drew fun x W'=>∃K',x=.returned (.bool fo)∧SetP W' B K'∧W0.drew.grownBy W' (some B)∧(fo=true→InvP w0 K' 0)):=hLKD
  by_cases hk7:k=7
  ·have hz0:z0=4:=by
    rcases stx_names hX with⟨h,_⟩|⟨h,_⟩|⟨h,_⟩|⟨_,_,_,_,q,s',a',rfl⟩
    ·omega
    ·omega
    ·omega
    ·cases he;rfl
   subst hz0
   have b7:(k==7)=true:=by simp[hk7]
   clear hX hS hI hc hcW hc0 hW hlv hB hb0 hk0 hk6 hk7 hfo hdB HLK hLKD he
   go_enter Tryz.func154,Tryz.ntmps154
   go_wp2
   rw[←hW0]
   clear hW0
   go_region_held3 (fun w'=>w'.cell? ⟨W.heap.size,0,none⟩=some (.map (some B))∧w'.cell? ⟨W.heap.size,1,none⟩=some (.map (some B2))∧w'.cell? ⟨b,off+6,none⟩=some (.int .i64 4)) (go_keep)
    (first
      |(go_at_call 170;refine(HC.out).mono ?_;rintro x W2 ⟨K',rfl,hs2,hg2,hi2⟩;have H2:Hid (SetP W2 B K'∧W0.drew.grownBy W2 (some B)∧(fo=true→InvP w0 K' 0)):=⟨hs2,hg2,hi2⟩;have q0:W2.cell? ⟨W.heap.size,0,none⟩=some (.map (some B)):=(World.cell?_of_block (a:=⟨W.heap.size,0,none⟩) (hg2.block W.heap.size hlk (by simp[hLB]))).trans l0;have q1:W2.cell? ⟨W.heap.size,1,none⟩=some (.map (some B2)):=(World.cell?_of_block (a:=⟨W.heap.size,1,none⟩) (hg2.block W.heap.size hlk (by simp[hLB]))).trans l1;have q2:W2.cell? ⟨b,off+6,none⟩=some (.int .i64 4):=(World.cell?_of_block (a:=⟨b,off+6,none⟩) (hg2.block b hbl (by simp[hbB]))).trans y0;clear hs2 hg2 hi2))
   all_goals go_wp2
   all_goals go_ret
   exact⟨K',rfl,H2.out.1,gr_drew HB0.out H2.out.2.1,fun h=>H2.out.2.2 (by rw[←HFO.out];exact h HK6.out)⟩
  ·have b7:(k==7)=false:=by simp[hk7]
   clear hX hS hI hc hcW hc0 hW hlv hB hb0 hk0 hk6 hk7 hfo hdB HLK hLKD he
   go_enter Tryz.func154,Tryz.ntmps154
   go_wp2
   rw[←hW0]
   clear hW0
   go_region_held3 (fun w'=>w'.cell? ⟨W.heap.size,0,none⟩=some (.map (some B))∧w'.cell? ⟨W.heap.size,1,none⟩=some (.map (some B2))) (go_keep)
    (first
      |(go_at_call 170;refine(HC.out).mono ?_;rintro x W2 ⟨K',rfl,hs2,hg2,hi2⟩;have H2:Hid (SetP W2 B K'∧W0.drew.grownBy W2 (some B)∧(fo=true→InvP w0 K' 0)):=⟨hs2,hg2,hi2⟩;have q0:W2.cell? ⟨W.heap.size,0,none⟩=some (.map (some B)):=(World.cell?_of_block (a:=⟨W.heap.size,0,none⟩) (hg2.block W.heap.size hlk (by simp[hLB]))).trans l0;have q1:W2.cell? ⟨W.heap.size,1,none⟩=some (.map (some B2)):=(World.cell?_of_block (a:=⟨W.heap.size,1,none⟩) (hg2.block W.heap.size hlk (by simp[hLB]))).trans l1;clear hs2 hg2 hi2))
   all_goals go_wp2
   all_goals go_ret
   exact⟨K',rfl,H2.out.1,gr_drew HB0.out H2.out.2.1,fun h=>H2.out.2.2 (by rw[←HFO.out];exact h HK6.out)⟩
end Go.Proofs.YtepkhlpjgnckkaaGreatDoor
