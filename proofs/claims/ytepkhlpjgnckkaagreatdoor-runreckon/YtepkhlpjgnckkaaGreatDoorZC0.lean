/- parse.more, parse.list, parse.enclosed at cloister/api.Policy. Contracts of (*reader).policy and (*reader).label. -/
import Derived.Test.YtepkhlpjgnckkaaGreatDoorZB9
namespace Go.Proofs.YtepkhlpjgnckkaaGreatDoor
set_option maxRecDepth 100000
set_option maxHeartbeats 8000000
open Go.RowKit
open Par (Tok Po Tr nx atP isT ba Res)
theorem Tryz.infoLP:(Tryz.prog.info? 152).map (fun i=>(i.zero,i.size,i.bytes))=some (some (.agg #[.string ⟨#[]⟩,.slice none 0 0]),2,40):=by kernel_rfl
def VP (B:Nat)(w':World)(a:Po)(u:Value):Prop:=∃(z0:ByteArray) (z1:Option Addr) (m1 d1:Nat),u=.agg #[.string z0,.slice z1 m1 d1]∧ElP w' (fun b=>B≤b) a [.string z0,.slice z1 m1 d1]
theorem newP (w:World)(e:TypeId){x0 x1:Value}:∀j u,([x0,x1]:List Value)[j]? =some u→(w.alloc (.cells #[x0,x1] e)).cell? ((⟨w.heap.size,0,none⟩:Addr).add j)=some u:=by
 intro j u hj
 have e0:(w.alloc (.cells #[x0,x1] e)).cell? ⟨w.heap.size,j,none⟩=(#[x0,x1]:Array Value)[j]? :=World.cell?_alloc_at _ _ _ _ (by simp)
 have e1:(⟨w.heap.size,0,none⟩:Addr).add j=⟨w.heap.size,j,none⟩:=by simp[Addr.add];intro h;exact h.symm
 rw[e1,e0];simpa using hj
theorem moreWP {w:World}{rb e:Nat}{bl pr:Int}{ts:List Tok}{v:Value}(h:Rd w rb e bl pr ts v){B n:Nat}{lv:Value}{css:List (List Value)}(ho:w.ownsRow B 152 2 lv n css.flatten)(hrB:rb<B)(hB:B≤w.heap.size)(most:Nat)(hm:most≤1000)(hacc:n≤most)
 (g:Nat) (fs lb:Array Value) (eg:∀args w,(callFunc g args).run Tryz.prog w=.ok (.enter g args) w) (pt:Res Po) (hp:Calls Tryz.prog g (fs++lb) w (Post w rb e bl pr pt (VP w.heap.size))):
 Calls Tryz.prog 163 #[.pointer (some ⟨rb,0,none⟩),lv,.int .i64 (most:Int),.func (.func g) fs lb] w (MoP ElP w rb e bl pr B 152 2 most n css lv ts pt):=by
 obtain⟨ao,c,rfl⟩:=own_slice ho
 have H:Hid (Rd w rb e bl pr ts v):=h
 have HO:Hid (w.ownsRow B 152 2 (.slice ao n c) n css.flatten):=ho
 have HB:Hid (B≤w.heap.size):=hB
 clear h ho hB
 by_cases hf:n=most
 ·have hi:((n:Int)==(most:Int))=true:=by simp[hf]
  have HF:Hid (n=most):=hf
  clear hf hp
  go_enter Tryz.func163,Tryz.ntmps163
  go_wp2_with fail
  refine(rGive_any _ H.out).mono ?_
  rintro x w2 ⟨rfl,hw2⟩
  subst hw2
  exact⟨rfl,.inl ⟨HF.out,rfl,rfl⟩⟩
 ·have hi:((n:Int)==(most:Int))=false:=by simp;omega
  have HF:Hid (n≠most):=hf
  obtain⟨i0,hi0,hz0,hz1,hz2⟩:=info_parts Tryz.infoLP
  have hln:n<1000:=by omega
  clear hf
  go_enter Tryz.func163,Tryz.ntmps163
  go_wp2_with fail
  refine hp.mono ?_
  rintro x w1 ⟨hg,⟨a,r,hpt,u,v',rfl,⟨z0,z1,m1,d1,rfl,hx⟩,h1⟩|⟨cc,q,hpt,rfl,r,v',h1⟩⟩
  ·have HG:Hid (w.grownBy w1 (some rb)):=hg
   have HPT:Hid (pt=.ok a r):=hpt
   have H1:Hid (Rd w1 rb e bl pr r v'):=h1
   have HX:Hid (ElP w1 (fun b=>w.heap.size≤b) a [.string z0,.slice z1 m1 d1]):=hx
   have HP:Hid (w1.ownsRow B 152 2 (.slice ao n c) n css.flatten):=own_kept HO.out hg hrB
   have hsz1:w.heap.size≤w1.heap.size:=hg.size
   clear hg h1 hx hpt
   go_wp2_with (at_builtin;refine wpList_append_own_at _ rfl _ _ 49 rfl B 152 i0 (.agg #[.string ⟨#[]⟩,.slice none 0 0]) 2 40 Tryz.underlying49 hi0 hz0 hz1 hz2 rfl (by decide) _ _ _ rfl (World.ownsRow.alloc HP.out _) ⟨w1.heap.size,0,none⟩ 1 1 [.string z0,.slice z1 m1 d1] rfl rfl ?c1 ?c2 ?c3 ?c4 ?c5 ?_)
   case c1=>exact newP _ _
   case c2=>exact isElP.one HX.out
   case c3=>unfold maxLen;omega
   case c4=>omega
   case c5=>have:=HB.out;simp;omega
   ·intro u' w2 hown2 hgrow2 _ hat2
    have hba:Below w1.heap.size w1 (w1.alloc (.cells #[.string z0,.slice z1 m1 d1] 152)):=(Below.refl _ _).alloc (Nat.le_refl _) _
    have HN:Hid (MoP ElP w rb e bl pr B 152 2 most n css (.slice ao n c) ts pt (.returned u') w2):=.inr ⟨HF.out,.inr ⟨a,r,u',v',[.string z0,.slice z1 m1 d1],_,HPT.out,rfl,HG.out.trans (grown_of_below _ hba),isElP.keeps HX.out (Keeps.of_below hba),hgrow2,hown2,by simpa using hat2,H1.out.keeps hba H1.out.lt⟩⟩
    clear hown2 hgrow2 hat2 hba
    go_wp2
    go_ret
    exact HN.out
  ·exact⟨rfl,.inr ⟨HF.out,.inl ⟨cc,q,hpt,rfl,hg,r,v',h1⟩⟩⟩
theorem moreP {w:World}{rb e:Nat}{bl pr:Int}{ts:List Tok}{v:Value}(h:Rd w rb e bl pr ts v){B:Nat}{lv:Value}{acc:List Po}(ho:OwnL ElP w B 152 2 lv acc)(hrB:rb<B)(hB:B≤w.heap.size)(most:Nat)(hm:most≤1000)(hacc:acc.length≤most)
 (g:Nat) (fs lb:Array Value) (eg:∀args w,(callFunc g args).run Tryz.prog w=.ok (.enter g args) w) (pt:Res Po) (hp:Calls Tryz.prog g (fs++lb) w (Post w rb e bl pr pt (VP w.heap.size))):
 Calls Tryz.prog 163 #[.pointer (some ⟨rb,0,none⟩),lv,.int .i64 (most:Int),.func (.func g) fs lb] w (PostB B w rb e bl pr (if acc.length=most then .no 2 (atP e ts) else pt.bind fun a r=>.ok (acc++[a]) r) (fun w' l u=>OwnL ElP w' B 152 2 u l)):=by
 obtain⟨css,h1,h2,h3⟩:=ho.ex
 exact(moreWP h h1 hrB hB most hm hacc g fs lb eg pt hp).mono fun x w' h9=>mop_of isElP h hrB hB h1 h2 h3 h9
structure BoxP (w:World)(bx rb:Nat)(s:ByteArray)(f:Value):Prop where
 b0:w.heap[bx]? =some (.cells #[.pointer (some ⟨rb,0,none⟩)] 73 (0,0))
 b1:w.heap[bx+1]? =some (.cells #[.string s] 9 (0,0))
 b2:w.heap[bx+2]? =some (.cells #[f] 183 (0,0))
theorem BoxP.fr {w w':World}{B bx rb:Nat}{s:ByteArray}{f:Value}(h:BoxP w bx rb s f)(k:Fr B rb w w')(hB:bx+2<B)(hr:rb<bx):BoxP w' bx rb s f:=
 ⟨(k.block _ (by omega) (by omega)).trans h.b0,(k.block _ (by omega) (by omega)).trans h.b1,(k.block _ (by omega) (by omega)).trans h.b2⟩
theorem BoxP.cells {w:World}{bx rb:Nat}{s:ByteArray}{f:Value}(h:BoxP w bx rb s f):w.cell? ⟨bx,0,none⟩=some (.pointer (some ⟨rb,0,none⟩))∧w.cell? ⟨bx+1,0,none⟩=some (.string s)∧w.cell? ⟨bx+2,0,none⟩=some f:=by
 have:=h.b0;have:=h.b1;have:=h.b2
 refine⟨?_,?_,?_⟩<;>simp[World.cell?, *]
theorem blkP {w:World}{b:Nat}{x0 x1:Value}{e:TypeId}(h:w.heap[b]? =some (.cells #[x0,x1] e (0,0))):(w.cell? ⟨b,0,none⟩=some x0∧w.cell? ⟨b,1,none⟩=some x1)∧w.frozen? ⟨b,0,none⟩=false∧w.frozen? ⟨b,1,none⟩=false:=by
 refine⟨⟨?_,?_⟩,?_,?_⟩<;>simp[World.cell?,World.frozen?,h]
theorem keptP {w:World}{n:Nat}{y0 y1:Value}:w.grownBy (((w).setCell ⟨n,0,none⟩ y0).setCell ⟨n,1,none⟩ y1) (some n):=by
 refine grown_set ?_ rfl _
 refine grown_set ?_ rfl _
 exact grown_refl _ _
theorem nextP {w:World}{rb e bx:Nat}{bl pr:Int}{ts:List Tok}{v:Value}(h:Rd w rb e bl pr ts v)(s:ByteArray)(hs:s.data.toList≠[])(hi:isT s.data.toList ts=true)(g:Nat)(fs lb:Array Value)(eg:∀args w,(callFunc g args).run Tryz.prog w=.ok (.enter g args) w)(hb:BoxP w bx rb s (.func (.func g) fs lb))(hrx:rb<bx)
 (P:List Tok→Res Po) (hp:∀w' v',w.grownBy w' (some rb)→Rd w' rb e bl pr ts.tail v'→Calls Tryz.prog g (fs++lb) w' (Post w' rb e bl pr (P ts.tail) (VP w'.heap.size))):
 Calls Tryz.prog 164 #[.pointer (some ⟨bx,0,none⟩),.pointer (some ⟨bx+1,0,none⟩),.pointer (some ⟨bx+2,0,none⟩)] w (Post w rb e bl pr (P ts.tail) (VP w.heap.size)):=by
 obtain⟨w0,hw0⟩:∃w0,w0=w.alloc (.cells #[.string ⟨#[]⟩,.slice none 0 0] 152):=⟨_,rfl⟩
 have hl2:=lt_of_block hb.b2
 have hbel:Below w.heap.size w w0:=by rw[hw0];exact(Below.refl _ _).alloc (Nat.le_refl _) _
 have hs0:w0.heap.size=w.heap.size+1:=by rw[hw0];simp
 have hres:w0.heap[w.heap.size]? =some (.cells #[.string ⟨#[]⟩,.slice none 0 0] 152 (0,0)):=by rw[hw0];exact heap_at_alloc _ _ _ rfl
 have hb0:BoxP w0 bx rb s (.func (.func g) fs lb):=hb.fr (Fr.of_below hbel) hl2 hrx
 obtain⟨k0,k1,k2⟩:=hb0.cells
 have j0:=hb.cells.1
 have j1:=hb.cells.2.1
 have HM:Hid (Par.must e s.data.toList ts=.ok (nx ts).2.1 ts.tail):=by show _=_;unfold Par.must;rw[if_pos hi]
 have H:Hid (Rd w0 rb e bl pr ts v):=h.keeps hbel h.lt
 have hrl:=h.lt
 have lb0:bx<w.heap.size:=by omega
 have lb1:bx+1<w.heap.size:=by omega
 clear h hb hi
 go_enter Tryz.func164,Tryz.ntmps164
 go_wp2_with fail
 rw[←hw0]
 refine(rMust_any s hs H.out).mono ?_
 rintro x w1 ⟨hg1,⟨a,r,hr,u,v',rfl,rfl,h1⟩|⟨cc,q,hr,rfl,r,v',h1⟩⟩
 ·rw[HM.out] at hr
  cases hr
  have hf1:Fr w0.heap.size rb w0 w1:=Fr.of_grown hg1 (Nat.le_refl _)
  have hb1:BoxP w1 bx rb s (.func (.func g) fs lb):=hb0.fr hf1 (by omega) hrx
  have m2:=hb1.cells.2.2
  have hg01:w.grownBy w1 (some rb):=grown_trans (grown_of_below _ hbel) hg1
  have HP:=hp w1 v' hg01 h1
  have HR1:Hid (w1.heap[w.heap.size]? =some (.cells #[.string ⟨#[]⟩,.slice none 0 0] 152 (0,0))):=(hf1.block _ (by omega) (by omega)).trans hres
  have HG:Hid (w.grownBy w1 (some rb)):=hg01
  have hz1:=hg1.size
  clear hg1 hf1 hb1 hg01 h1 k0 k1 k2 j0 j1 hp
  go_wp2_with fail
  refine HP.mono ?_
  rintro x w2 ⟨hg2,⟨a,r,hr,u,v2,rfl,⟨z0,z1,m1,d1,rfl,hx⟩,h2⟩|⟨cc,q,hr,rfl,r,v2,h2⟩⟩
  ·have hres2:w2.heap[w.heap.size]? =some (.cells #[.string ⟨#[]⟩,.slice none 0 0] 152 (0,0)):=(hg2.block _ (by omega) (by simp;omega)).trans HR1.out
   have hn2:=lt_of_block hres2
   obtain⟨⟨q0,q1⟩,p0,p1⟩:=blkP hres2
   have HG2:Hid (w.grownBy w2 (some rb)):=grown_trans HG.out hg2
   have HR2:Hid (P ts.tail=.ok a r):=hr
   have H2:Hid (Rd w2 rb e bl pr r v2):=h2
   have HX:Hid (ElP w2 (fun b=>w1.heap.size≤b) a [.string z0,.slice z1 m1 d1]):=hx
   obtain⟨wf,hwf⟩:∃wf,wf=((w2).setCell ⟨w.heap.size,0,none⟩ (.string z0)).setCell ⟨w.heap.size,1,none⟩ (.slice z1 m1 d1):=⟨_,rfl⟩
   have hkg:w2.grownBy wf (some w.heap.size):=by rw[hwf];exact keptP
   have HV:Hid (ElP wf (fun b=>w.heap.size≤b) a [.string z0,.slice z1 m1 d1]):=isElP.mono (isElP.keeps hx (Keeps.of_grown hkg fun b hb=>by simp;omega)) fun b hb _=>by omega
   have HB2:Below w.heap.size w2 wf:=⟨hkg.os,hkg.tape,hkg.output,hkg.size,fun k hk=>hkg.block k (by omega) (by simp;omega)⟩
   have HGF:Hid (w.grownBy wf (some rb)):=((Fr.of_grown HG2.out (Nat.le_refl _)).trans (Fr.of_below HB2)).grown
   have HRF:Hid (Rd wf rb e bl pr r v2):=h2.keeps HB2 (by omega)
   have HWF:Hid (wf=((w2).setCell ⟨w.heap.size,0,none⟩ (.string z0)).setCell ⟨w.heap.size,1,none⟩ (.slice z1 m1 d1)):=hwf
   clear hg2 hr h2 hx hres2 HP hkg HB2 hwf
   go_wp2
   refine bodyPost_ret (v:=.agg #[.string z0,.slice z1 m1 d1]) (by simp[results,Tryz.results164,go_sem,q0,q1]) rfl ?_
   rw[←HWF.out]
   exact⟨HGF.out,.inl ⟨_,_,HR2.out,_,_,rfl,⟨z0,z1,m1,d1,rfl,HV.out⟩,HRF.out⟩⟩
  ·exact⟨rfl,grown_trans HG.out hg2,.inr ⟨_,_,hr,rfl,_,_,h2⟩⟩
 ·rw[HM.out] at hr;cases hr
structure LsP (w wr:World)(rb e:Nat)(bl pr:Int)(s:ByteArray)(most:Nat)(P:List Tok→Res Po)(all:Res (List Po))(f lv:Value)(acc:List Po)(ts:List Tok)(v:Value):Prop where
 own:OwnL ElP wr (w.heap.size+3) 152 2 lv acc
 rd:Rd wr rb e bl pr ts v
 fr:Fr w.heap.size rb w wr
 box:BoxP wr w.heap.size rb s f
 big:w.heap.size+3≤wr.heap.size
 len:acc.length≤most
 eq:all=Par.listF e s.data.toList P (most - acc.length) acc ts
theorem listP {w:World}{rb e:Nat}{bl pr:Int}{ts:List Tok}{v:Value}(h:Rd w rb e bl pr ts v)(s:ByteArray)(hs:s.data.toList≠[])(most:Nat)(hm:most≤1000)(hm0:0<most)(g:Nat)(fs lb:Array Value)(eg:∀args w,(callFunc g args).run Tryz.prog w=.ok (.enter g args) w)
 (P:List Tok→Res Po) (hp:∀w' ts' v',w.grownBy w' (some rb)→Rd w' rb e bl pr ts' v'→Calls Tryz.prog g (fs++lb) w' (Post w' rb e bl pr (P ts') (VP w'.heap.size))):
 Calls Tryz.prog 143 #[.pointer (some ⟨rb,0,none⟩),.string s,.int .i64 (most:Int),.func (.func g) fs lb] w (Post w rb e bl pr (Par.listR e s.data.toList most P ts) (fun w' l u=>OwnL ElP w' (w.heap.size+3) 152 2 u l)):=by
 have hmf:=mkF
 have hrl:=h.lt
 obtain⟨w0,hw0⟩:∃w0,w0=((w.alloc (.cells #[.pointer (some ⟨rb,0,none⟩)] 73)).alloc (.cells #[.string s] 9)).alloc (.cells #[.func (.func g) fs lb] 183):=⟨_,rfl⟩
 have hbel:Below w.heap.size w w0:=by rw[hw0];exact(((Below.refl _ _).alloc (Nat.le_refl _) _).alloc (by simp) _).alloc (by simp;omega) _
 have hs0:w0.heap.size=w.heap.size+3:=by rw[hw0];simp
 have hb0:BoxP w0 w.heap.size rb s (.func (.func g) fs lb):=by
  rw[hw0]
  exact⟨heap_past_alloc (heap_past_alloc (heap_at_alloc _ _ _ rfl)),heap_past_alloc (heap_at_alloc _ _ _ (by simp)),heap_at_alloc _ _ _ (by simp)⟩
 have HB0:Hid (BoxP w0 w.heap.size rb s (.func (.func g) fs lb)):=hb0
 have HBE:Hid (Below w.heap.size w w0):=hbel
 have HP0:=hp w0 ts v (grown_of_below _ hbel) (h.keeps hbel h.lt)
 have HP:Hid (∀w' ts' v',w.grownBy w' (some rb)→Rd w' rb e bl pr ts' v'→Calls Tryz.prog g (fs++lb) w' (Post w' rb e bl pr (P ts') (VP w'.heap.size))):=hp
 clear h hp hb0 hbel
 go_enter Tryz.func143,Tryz.ntmps143
 go_wp2_with fail
 rw[←hw0]
 refine HP0.mono ?_
 rintro x w1 ⟨hg1,⟨a,r,hr,u,v1,rfl,⟨z0,z1,m1,d1,rfl,hx⟩,h1⟩|⟨cc,q,hr,rfl,r,v1,h1⟩⟩
 ·have HR0:Hid (Par.listR e s.data.toList most P ts=Par.listF e s.data.toList P (most - 1) [a] r):=by show _=_;unfold Par.listR;rw[hr];rfl
  have HS:Hid (LsP w (w1.alloc (.cells #[.string z0,.slice z1 m1 d1] 152)) rb e bl pr s most P (Par.listR e s.data.toList most P ts) (.func (.func g) fs lb) (.slice (some ⟨w1.heap.size,0,none⟩) 1 1) [a] r v1):=by
   have hz:=hg1.size
   refine⟨OwnL.one isElP (by rw[hs0] at hx;exact hx) (by omega),h1.keeps ((Below.refl _ _).alloc (Nat.le_refl _) _) h1.lt,(Fr.of_below HBE.out).trans ((Fr.of_grown hg1 (by omega)).trans (Fr.of_below ((Below.refl _ _).alloc (by omega) _))),?_,by simp;omega,hm0,HR0.out⟩
   exact(HB0.out.fr (Fr.of_grown hg1 (Nat.le_refl _)) (by omega) hrl).fr (Fr.of_below ((Below.refl _ _).alloc (Nat.le_refl _) _)) (by omega) hrl
  clear hg1 hx h1 HP0 hr hw0
  go_wp2
  go_loopw [9] (fun lv wr=>∃acc ts' v',LsP w wr rb e bl pr s most P (Par.listR e s.data.toList most P ts) (.func (.func g) fs lb) lv acc ts' v') (fun lv _=>most - lenOf lv)
  case atStart=>exact⟨_,_,_,HS.out⟩
  case round=>
   obtain⟨acc,ts',v',HL0⟩:=hrel
   obtain⟨ao,cc,rfl⟩:=HL0.own.slice
   have HL:Hid (LsP w wr rb e bl pr s most P (Par.listR e s.data.toList most P ts) (.func (.func g) fs lb) (.slice ao acc.length cc) acc ts' v'):=HL0
   obtain⟨k0,k1,k2⟩:=HL0.box.cells
   have hbig:=HL0.big
   have hlen:=HL0.len
   clear HL0 HS
   go_wp2_with fail
   refine(rIs_any s HL.out.rd).mono ?_
   rintro x w2 ⟨rfl,hb2⟩
   have HR2:Hid (Rd w2 rb e bl pr ts' v'):=HL.out.rd.keeps hb2 HL.out.rd.lt
   have HO2:Hid (OwnL ElP w2 (w.heap.size+3) 152 2 (.slice ao acc.length cc) acc):=HL.out.own.below isElP hb2
   have HX2:Hid (BoxP w2 w.heap.size rb s (.func (.func g) fs lb)):=HL.out.box.fr (Fr.of_below hb2) (by omega) hrl
   have HF2:Hid (Fr w.heap.size rb w w2):=HL.out.fr.trans (Fr.of_below (hb2.mono (by omega)))
   have hz2:=hb2.size
   obtain⟨i0,i1,i2⟩:=HX2.out.cells
   clear hb2 k0 k1 k2
   cases hi:isT s.data.toList ts' with
   | false=>
    have HE:Hid (Par.listR e s.data.toList most P ts=.ok acc ts'):=by
     show _=_
     rw[HL.out.eq]
     cases most - acc.length with
     | zero=>unfold Par.listF;rw[if_neg (by simp[hi])]
     | succ m=>unfold Par.listF;rw[if_neg (by simp[hi])]
    clear hi
    go_wp2
    go_ret
    exact⟨HF2.out.grown,.inl ⟨_,_,HE.out,_,_,rfl,HO2.out,HR2.out⟩⟩
   | true=>
    have hbm:w.heap.size+3≤w2.heap.size:=by omega
    have HN:=fun(w':World) (v'':Value) (hg:w2.grownBy w' (some rb)) (hr:Rd w' rb e bl pr ts'.tail v'')=>HP.out w' ts'.tail v'' ((HF2.out.trans (Fr.of_grown hg (by omega))).grown) hr
    have HM:=moreP HR2.out HO2.out (by omega) hbm most hm hlen 164 #[] #[.pointer (some ⟨w.heap.size,0,none⟩),.pointer (some ⟨w.heap.size+1,0,none⟩),.pointer (some ⟨w.heap.size+2,0,none⟩)] (enters_of Tryz.func164 (by kernel_rfl) rfl) (P ts'.tail) (nextP HR2.out s hs hi g fs lb eg HX2.out hrl P HN)
    have HE:Hid (Par.listR e s.data.toList most P ts=if acc.length=most then .no 2 (atP e ts') else(P ts'.tail).bind fun a r=>Par.listF e s.data.toList P (most - (acc.length+1)) (acc++[a]) r):=by
     show _=_
     rw[HL.out.eq]
     by_cases hf:acc.length=most
     ·rw[if_pos hf,show most - acc.length=0 by omega];unfold Par.listF;rw[if_pos hi]
     ·rw[if_neg hf,show most - acc.length=(most - (acc.length+1))+1 by omega]
      conv=>lhs;unfold Par.listF
      rw[if_pos hi]
    clear HN hi
    go_wp2_with fail
    refine HM.mono ?_
    rintro x w3 ⟨hf3,⟨l,r,hr,u,v3,rfl,ho3,h3⟩|⟨c3,q3,hr,rfl,r,v3,h3⟩⟩
    ·by_cases hf:acc.length=most
     ·rw[if_pos hf] at hr;cases hr
     ·rw[if_neg hf] at hr
      obtain⟨a2,r2,hq,hr⟩:=Par.bind_ok hr
      cases hr
      have HS3:Hid (LsP w w3 rb e bl pr s most P (Par.listR e s.data.toList most P ts) (.func (.func g) fs lb) u (acc++[a2]) r v3):=by
       refine⟨ho3,h3,HF2.out.trans (hf3.mono (by omega)),HX2.out.fr hf3 (by omega) hrl,by have:=hf3.size;omega,by simp;omega,?_⟩
       rw[HE.out,if_neg hf,hq,List.length_append];rfl
      have HL3:Hid (lenOf u=acc.length+1):=by show _=_;rw[ho3.len];simp
      clear hf3 ho3 h3 hq
      go_wp2
      go_roundw
      case rel=>exact⟨_,_,_,HS3.out⟩
      case measure=>rw[HL3.out];simp only[lenOf];omega
    ·have HG3:Hid (w.grownBy w3 (some rb)):=(HF2.out.trans (hf3.mono (by omega))).grown
     refine⟨rfl,HG3.out,.inr ⟨c3,q3,?_,rfl,_,_,h3⟩⟩
     rw[HE.out]
     by_cases hf:acc.length=most
     ·rw[if_pos hf] at hr⊢;cases hr;rfl
     ·rw[if_neg hf] at hr⊢
      cases hq:P ts'.tail with
      | ok a2 r2=>rw[hq] at hr;cases hr
      | no c2 q2=>rw[hq] at hr;cases hr;rfl
 ·have e1:Par.listR e s.data.toList most P ts=.no cc q:=by unfold Par.listR;rw[hr];rfl
  exact⟨rfl,grown_trans (grown_of_below _ HBE.out) hg1,.inr ⟨_,_,e1,rfl,_,_,h1⟩⟩
theorem enclP {w:World}{rb e:Nat}{bl pr:Int}{ts:List Tok}{v:Value}(h:Rd w rb e bl pr ts v)(o s c:ByteArray)(hO:o.data.toList≠[])(hs:s.data.toList≠[])(hc:c.data.toList≠[])(most:Nat)(hm:most≤1000)(hm0:0<most)(g:Nat)(fs lb:Array Value)(eg:∀args w,(callFunc g args).run Tryz.prog w=.ok (.enter g args) w)
 (P:List Tok→Res Po) (hp:∀w' ts' v',w.grownBy w' (some rb)→Rd w' rb e bl pr ts' v'→Calls Tryz.prog g (fs++lb) w' (Post w' rb e bl pr (P ts') (VP w'.heap.size))):
 Calls Tryz.prog 102 #[.pointer (some ⟨rb,0,none⟩),.string o,.string s,.string c,.int .i64 (most:Int),.func (.func g) fs lb] w (Post w rb e bl pr (Par.encl e o.data.toList s.data.toList c.data.toList most P ts) (fun w' l u=>∃B,w.heap.size≤B∧OwnL ElP w' B 152 2 u l)):=by
 have hrl:=h.lt
 have H:Hid (Rd w rb e bl pr ts v):=h
 have HP:Hid (∀w' ts' v',w.grownBy w' (some rb)→Rd w' rb e bl pr ts' v'→Calls Tryz.prog g (fs++lb) w' (Post w' rb e bl pr (P ts') (VP w'.heap.size))):=hp
 have HE0:Hid (∀x y,Par.must e o.data.toList ts=.ok x y→Par.encl e o.data.toList s.data.toList c.data.toList most P ts=(if isT c.data.toList y=true then Res.ok [] y else Par.listR e s.data.toList most P y).bind fun l r2=>(Par.must e c.data.toList r2).bind fun _ r3=>.ok l r3):=fun x y hxy=>by show Par.encl _ _ _ _ _ _ _=_;unfold Par.encl;rw[hxy];rfl
 have HEN:Hid (∀x y,Par.must e o.data.toList ts=.no x y→Par.encl e o.data.toList s.data.toList c.data.toList most P ts=.no x y):=fun x y hxy=>by show Par.encl _ _ _ _ _ _ _=_;unfold Par.encl;rw[hxy];rfl
 clear h hp
 go_enter Tryz.func102,Tryz.ntmps102
 go_wp2_with fail
 refine(rMust_any o hO H.out).mono ?_
 rintro x w1 ⟨hg1,⟨a1,r1,hr1,u1,v1,rfl,rfl,h1⟩|⟨c1,q1,hr1,rfl,r1,v1,h1⟩⟩
 ·have HE1:=HE0.out _ _ hr1
  have H1:Hid (Rd w1 rb e bl pr r1 v1):=h1
  have HG1:Hid (w.grownBy w1 (some rb)):=hg1
  have hz1:=hg1.size
  clear h1 hg1 HE0 HEN hr1
  go_wp2_with fail
  refine(rIs_any c H1.out).mono ?_
  rintro x w2 ⟨rfl,hb2⟩
  have H2:Hid (Rd w2 rb e bl pr r1 v1):=H1.out.keeps hb2 H1.out.lt
  have HG2:Hid (w.grownBy w2 (some rb)):=grown_below HG1.out hb2
  have hz2:=hb2.size
  clear hb2 H1
  cases hi:isT c.data.toList r1 with
  | true=>
   rw[if_pos hi] at HE1
   have HE2:Hid (∀z y,Par.must e c.data.toList r1=.ok z y→Par.encl e o.data.toList s.data.toList c.data.toList most P ts=.ok [] y):=fun z y hzy=>by rw[HE1];simp only[Par.Res.bind];rw[hzy]
   have HM:Hid (Par.must e c.data.toList r1=.ok (nx r1).2.1 r1.tail):=by show _=_;unfold Par.must;rw[if_pos hi]
   clear HE1 hi
   go_wp2_with fail
   refine(rMust_any c hc H2.out).mono ?_
   rintro x w3 ⟨hg3,⟨a3,r3,hr3,u3,v3,rfl,rfl,h3⟩|⟨c3,q3,hr3,rfl,r3,v3,h3⟩⟩
   ·have HEE:=HE2.out _ _ hr3
    have HG3:Hid (w.grownBy w3 (some rb)):=grown_trans HG2.out hg3
    have H3:Hid (Rd w3 rb e bl pr r3 v3):=h3
    have HF:Hid (Par.encl e o.data.toList s.data.toList c.data.toList most P ts=.ok [] r3):=HEE
    clear hg3 h3 hr3 HEE HE2 HM
    go_wp2
    go_ret
    exact⟨HG3.out,.inl ⟨_,_,HF.out,_,_,rfl,⟨w.heap.size,Nat.le_refl _,OwnL.nil _ _ _ _ _⟩,H3.out⟩⟩
   ·rw[HM.out] at hr3;cases hr3
  | false=>
   rw[if_neg (by simp[hi])] at HE1
   have HL:=listP H2.out s hs most hm hm0 g fs lb eg P (fun w' ts' v' hg hr=>HP.out w' ts' v' (grown_trans HG2.out hg) hr)
   have HEQ:Hid (Par.encl e o.data.toList s.data.toList c.data.toList most P ts=(Par.listR e s.data.toList most P r1).bind fun l r2=>(Par.must e c.data.toList r2).bind fun _ r3=>.ok l r3):=HE1
   clear HE1 hi
   go_wp2_with fail
   refine HL.mono ?_
   rintro x w3 ⟨hg3,⟨l,r3,hr3,u3,v3,rfl,ho3,h3⟩|⟨c3,q3,hr3,rfl,r3,v3,h3⟩⟩
   ·obtain⟨ao,cc,rfl⟩:=ho3.slice
    have HE3:=HEQ.out
    rw[hr3] at HE3
    have HE4:Hid (Par.encl e o.data.toList s.data.toList c.data.toList most P ts=(Par.must e c.data.toList r3).bind fun _ r4=>.ok l r4):=HE3
    have HO3:Hid (OwnL ElP w3 (w2.heap.size+3) 152 2 (.slice ao l.length cc) l):=ho3
    have H3:Hid (Rd w3 rb e bl pr r3 v3):=h3
    have HG3:Hid (w.grownBy w3 (some rb)):=grown_trans HG2.out hg3
    clear HE3 ho3 h3 hg3 hr3 HEQ HL
    go_wp2_with fail
    refine(rMust_any c hc H3.out).mono ?_
    rintro x w4 ⟨hg4,⟨a4,r4,hr4,u4,v4,rfl,rfl,h4⟩|⟨c4,q4,hr4,rfl,r4,v4,h4⟩⟩
    ·have HF:Hid (Par.encl e o.data.toList s.data.toList c.data.toList most P ts=.ok l r4):=by show _=_;rw[HE4.out,hr4];rfl
     have HO4:Hid (OwnL ElP w4 (w2.heap.size+3) 152 2 (.slice ao l.length cc) l):=HO3.out.grown isElP hg4 (by omega)
     have H4:Hid (Rd w4 rb e bl pr r4 v4):=h4
     have HG4:Hid (w.grownBy w4 (some rb)):=grown_trans HG3.out hg4
     clear hr4 hg4 h4
     go_wp2
     go_ret
     exact⟨HG4.out,.inl ⟨_,_,HF.out,_,_,rfl,⟨w2.heap.size+3,by omega,HO4.out⟩,H4.out⟩⟩
    ·refine⟨rfl,grown_trans HG3.out hg4,.inr ⟨c4,q4,?_,rfl,_,_,h4⟩⟩
     rw[HE4.out,hr4];rfl
   ·refine⟨rfl,grown_trans HG2.out hg3,.inr ⟨c3,q3,?_,rfl,_,_,h3⟩⟩
    rw[HEQ.out,hr3];rfl
 ·exact⟨rfl,hg1,.inr ⟨_,_,HEN.out _ _ hr1,rfl,_,_,h1⟩⟩
theorem Post.imp {α:Type}{w:World}{rb e:Nat}{bl pr:Int}{res:Res α}{V V':World→α→Value→Prop}{x:Ending}{w':World}(h:Post w rb e bl pr res V x w')(k:∀a u,V w' a u→V' w' a u):Post w rb e bl pr res V' x w':=by
 obtain⟨hg,⟨a,r,h1,u,v',h2,h3,h4⟩| h⟩:=h
 ·exact⟨hg,.inl ⟨a,r,h1,u,v',h2,k a u h3,h4⟩⟩
 ·exact⟨hg,.inr h⟩
theorem blk2 {w:World}{b:Nat}{x y:Value}{e:TypeId}(h:w.heap[b]? =some (.cells #[x,y] e (0,0))):
 (w.cell? ⟨b,0,none⟩=some x∧w.cell? ⟨b,1,none⟩=some y)∧w.frozen? ⟨b,0,none⟩=false∧w.frozen? ⟨b,1,none⟩=false:=by
 refine⟨⟨?_,?_⟩,?_,?_⟩<;>simp[World.cell?,World.frozen?,h]
theorem nameS {w:World}{rb e:Nat}{bl pr:Int}{ts:List Tok}{v:Value}(h:Rd w rb e bl pr ts v):
 Calls Tryz.prog 60 (#[.pointer (some ⟨rb,0,none⟩)]++#[]) w (Post w rb e bl pr (Par.nameR e ts) (VS w.heap.size)):=
 (rName_any h).mono fun _ _ hp=>hp.imp fun a _ hu=>⟨a,hu.1,rfl,hu.2⟩
theorem policyC {w:World}{rb e:Nat}{bl pr:Int}{ts:List Tok}{v:Value}(h:Rd w rb e bl pr ts v):
 Calls Tryz.prog 103 #[.pointer (some ⟨rb,0,none⟩)] w (Post w rb e bl pr (Par.policyR e ts) (VP w.heap.size)):=by
 have hmf:=mkF
 have f0:=fTok0
 have hrl:=h.lt
 obtain⟨w0,hw0⟩:∃w0,w0=w.alloc (.cells #[.string ⟨#[]⟩,.slice none 0 0] 152):=⟨_,rfl⟩
 have hbel:Below w.heap.size w w0:=by rw[hw0];exact(Below.refl _ _).alloc (Nat.le_refl _) _
 have hs0:w0.heap.size=w.heap.size+1:=by rw[hw0];simp
 have hres:w0.heap[w.heap.size]? =some (.cells #[.string ⟨#[]⟩,.slice none 0 0] 152 (0,0)):=by rw[hw0];exact heap_at_alloc _ _ _ rfl
 have H:Hid (Rd w0 rb e bl pr ts v):=h.keeps hbel h.lt
 have HE:Hid (Par.policyR e ts=(Par.nameR e ts).bind fun o r=>(Par.must e [58] r).bind fun _ r2=>if(nx r2).1=1 then(Par.listR e [44] 6 (Par.nameR e) r2).bind fun l r3=>.ok (o,l) r3 else .ok (o,[]) r2):=rfl
 clear h
 go_enter Tryz.func103,Tryz.ntmps103
 go_wp2_with fail
 rw[←hw0]
 refine(rName_any H.out).mono ?_
 rintro x w1 ⟨hg1,⟨o,r1,hr1,u1,v1,rfl,⟨rfl,hoz⟩,h1⟩|⟨c1,q1,hr1,rfl,r1,v1,h1⟩⟩
 ·have HE1:Hid (Par.policyR e ts=(Par.must e [58] r1).bind fun _ r2=>if(nx r2).1=1 then(Par.listR e [44] 6 (Par.nameR e) r2).bind fun l r3=>.ok (o,l) r3 else .ok (o,[]) r2):=by show _=_;rw[HE.out,hr1];rfl
  have HG1:Hid (w.grownBy w1 (some rb)):=grown_trans (grown_of_below _ hbel) hg1
  have hz1:=hg1.size
  have hres1:w1.heap[w.heap.size]? =some (.cells #[.string ⟨#[]⟩,.slice none 0 0] 152 (0,0)):=(hg1.block _ (by omega) (by simp;omega)).trans hres
  obtain⟨w1',hw1'⟩:∃w1',w1'=w1.alloc (.cells #[.string o,.slice none 0 0] 152):=⟨_,rfl⟩
  have hbel1:Below w1.heap.size w1 w1':=by rw[hw1'];exact(Below.refl _ _).alloc (Nat.le_refl _) _
  have hs1:w1'.heap.size=w1.heap.size+1:=by rw[hw1'];simp
  have hp1:w1'.heap[w1.heap.size]? =some (.cells #[.string o,.slice none 0 0] 152 (0,0)):=by rw[hw1'];exact heap_at_alloc _ _ _ rfl
  have H1:Hid (Rd w1' rb e bl pr r1 v1):=h1.keeps hbel1 h1.lt
  have hres1':w1'.heap[w.heap.size]? =some (.cells #[.string ⟨#[]⟩,.slice none 0 0] 152 (0,0)):=(hbel1.block _ (by omega)).trans hres1
  have HR1:Hid (w1'.heap[w.heap.size]? =some (.cells #[.string ⟨#[]⟩,.slice none 0 0] 152 (0,0))):=hres1'
  have HP1:Hid (w1'.heap[w1.heap.size]? =some (.cells #[.string o,.slice none 0 0] 152 (0,0))):=hp1
  have HG1':Hid (w.grownBy w1' (some rb)):=grown_below HG1.out hbel1
  clear hg1 h1 hr1 hres1 hres1' hp1 hbel1
  go_wp2_with fail
  rw[←hw1']
  refine(rMust_any _ (by decide) H1.out).mono ?_
  rintro x w2 ⟨hg2,⟨a2,r2,hr2,u2,v2,rfl,rfl,h2⟩|⟨c2,q2,hr2,rfl,r2,v2,h2⟩⟩
  ·have HE2:Hid (Par.policyR e ts=if(nx r2).1=1 then(Par.listR e [44] 6 (Par.nameR e) r2).bind fun l r3=>.ok (o,l) r3 else .ok (o,[]) r2):=by show _=_;rw[HE1.out,show([58]:List UInt8)=(⟨#[58]⟩:ByteArray).data.toList from rfl,hr2];rfl
   have HG2:Hid (w.grownBy w2 (some rb)):=grown_trans HG1'.out hg2
   have hz2:=hg2.size
   have HR2:Hid (w2.heap[w.heap.size]? =some (.cells #[.string ⟨#[]⟩,.slice none 0 0] 152 (0,0))):=(hg2.block _ (by omega) (by simp;omega)).trans HR1.out
   have HP2:Hid (w2.heap[w1.heap.size]? =some (.cells #[.string o,.slice none 0 0] 152 (0,0))):=(hg2.block _ (by omega) (by simp;omega)).trans HP1.out
   have H2:Hid (Rd w2 rb e bl pr r2 v2):=h2
   clear hg2 h2 hr2
   go_wp2_with fail
   refine(rNext_any H2.out).mono ?_
   rintro x w3 ⟨rfl,hb3⟩
   have hz3:=hb3.size
   have HG3:Hid (w.grownBy w3 (some rb)):=grown_below HG2.out hb3
   have hres3:w3.heap[w.heap.size]? =some (.cells #[.string ⟨#[]⟩,.slice none 0 0] 152 (0,0)):=(hb3.block _ (by omega)).trans HR2.out
   have hp3:w3.heap[w1.heap.size]? =some (.cells #[.string o,.slice none 0 0] 152 (0,0)):=(hb3.block _ (by omega)).trans HP2.out
   have H3:Hid (Rd w3 rb e bl pr r2 v2):=H2.out.keeps hb3 H2.out.lt
   clear hb3
   by_cases hk:(nx r2).1=1
   ·have hkb:((nx r2).1==1)=true:=by simp[hk]
    have HE3:Hid (Par.policyR e ts=(Par.listR e [44] 6 (Par.nameR e) r2).bind fun l r3=>.ok (o,l) r3):=by show _=_;rw[HE2.out,if_pos hk]
    have HL:=listS H3.out ⟨#[44]⟩ (by decide) 6 (by omega) (by omega) 60 #[.pointer (some ⟨rb,0,none⟩)] #[] (enters_of Tryz.func60 (by kernel_rfl) rfl) (Par.nameR e) (fun w' ts' v' _ hr=>nameS hr)
    have HR3:Hid (w3.heap[w.heap.size]? =some (.cells #[.string ⟨#[]⟩,.slice none 0 0] 152 (0,0))):=hres3
    have HP3:Hid (w3.heap[w1.heap.size]? =some (.cells #[.string o,.slice none 0 0] 152 (0,0))):=hp3
    clear hres3 hp3 hk
    go_wp2_with fail
    refine HL.mono ?_
    rintro x w4 ⟨hg4,⟨l,r4,hr4,u4,v4,rfl,ho4,h4⟩|⟨c4,q4,hr4,rfl,r4,v4,h4⟩⟩
    ·obtain⟨ro,rc,rfl⟩:=ho4.slice
     have HF:Hid (Par.policyR e ts=.ok (o,l) r4):=by show _=_;rw[HE3.out,show([44]:List UInt8)=(⟨#[44]⟩:ByteArray).data.toList from rfl,hr4];rfl
     have hz4:=hg4.size
     have hres4:w4.heap[w.heap.size]? =some (.cells #[.string ⟨#[]⟩,.slice none 0 0] 152 (0,0)):=(hg4.block _ (by omega) (by simp;omega)).trans HR3.out
     have hp4:w4.heap[w1.heap.size]? =some (.cells #[.string o,.slice none 0 0] 152 (0,0)):=(hg4.block _ (by omega) (by simp;omega)).trans HP3.out
     obtain⟨⟨e0,e1⟩,g0,g1⟩:=blk2 hres4
     obtain⟨⟨i0,i1⟩,j0,j1⟩:=blk2 hp4
     obtain⟨wf,hwf⟩:∃wf,wf=((w4.setCell ⟨w1.heap.size,1,none⟩ (.slice ro l.length rc)).setCell ⟨w.heap.size,0,none⟩ (.string o)).setCell ⟨w.heap.size,1,none⟩ (.slice ro l.length rc):=⟨_,rfl⟩
     have hkb4:∀k,k≠w1.heap.size→k≠w.heap.size→wf.heap[k]? =w4.heap[k]? :=fun k h1 h2=>by rw[hwf,Below.heap_setCell _ _ _ _ h2,Below.heap_setCell _ _ _ _ h2,Below.heap_setCell _ _ _ _ h1]
     have hb4:Below w.heap.size w4 wf:=⟨by rw[hwf];rfl,by rw[hwf];rfl,by rw[hwf];rfl,by rw[hwf];simp[World.setCell],fun k hk=>hkb4 k (by omega) (by omega)⟩
     have HV:Hid (ElP wf (fun b=>w.heap.size≤b) (o,l) [.string o,.slice ro l.length rc]):=⟨_,rfl,hoz,(ho4.strs.keeps ⟨hb4.size,fun b hb _=>hkb4 b (by omega) (by omega)⟩).mono fun b hb _=>by omega⟩
     have HGF:Hid (w.grownBy wf (some rb)):=((Fr.of_grown (grown_trans HG3.out hg4) (Nat.le_refl _)).trans (Fr.of_below hb4)).grown
     have HRF:Hid (Rd wf rb e bl pr r4 v4):=h4.keeps hb4 (by omega)
     have HWF:Hid (wf=((w4.setCell ⟨w1.heap.size,1,none⟩ (.slice ro l.length rc)).setCell ⟨w.heap.size,0,none⟩ (.string o)).setCell ⟨w.heap.size,1,none⟩ (.slice ro l.length rc)):=hwf
     have hne:¬w1.heap.size=w.heap.size:=by omega
     have hne':¬w.heap.size=w1.heap.size:=by omega
     clear hg4 ho4 h4 hr4 hres4 hp4 hkb4 hb4 hwf HL
     go_wp2
     refine bodyPost_ret (v:=.agg #[.string o,.slice ro l.length rc]) (by simp[results,Tryz.results103,go_sem,e0,e1]) rfl ?_
     rw[←HWF.out]
     exact⟨HGF.out,.inl ⟨_,_,HF.out,_,_,rfl,⟨_,_,_,_,rfl,HV.out⟩,HRF.out⟩⟩
    ·have HF:Par.policyR e ts=.no c4 q4:=by rw[HE3.out,show([44]:List UInt8)=(⟨#[44]⟩:ByteArray).data.toList from rfl,hr4];rfl
     exact⟨rfl,grown_trans HG3.out hg4,.inr ⟨_,_,HF,rfl,_,_,h4⟩⟩
   ·have hkb:((nx r2).1==1)=false:=by simp[hk]
    have HF:Hid (Par.policyR e ts=.ok (o,[]) r2):=by show _=_;rw[HE2.out,if_neg hk]
    obtain⟨⟨e0,e1⟩,g0,g1⟩:=blk2 hres3
    obtain⟨⟨i0,i1⟩,j0,j1⟩:=blk2 hp3
    obtain⟨wf,hwf⟩:∃wf,wf=(w3.setCell ⟨w.heap.size,0,none⟩ (.string o)).setCell ⟨w.heap.size,1,none⟩ (.slice none 0 0):=⟨_,rfl⟩
    have hb3:Below w.heap.size w3 wf:=⟨by rw[hwf];rfl,by rw[hwf];rfl,by rw[hwf];rfl,by rw[hwf];simp[World.setCell],fun k hk=>by rw[hwf,Below.heap_setCell _ _ _ _ (by show k≠w.heap.size;omega),Below.heap_setCell _ _ _ _ (by show k≠w.heap.size;omega)]⟩
    have HV:Hid (ElP wf (fun b=>w.heap.size≤b) (o,[]) [.string o,.slice none 0 0]):=⟨_,rfl,hoz,⟨RowV.none _ _ _ _,fun s hs=>by cases hs⟩⟩
    have HGF:Hid (w.grownBy wf (some rb)):=((Fr.of_grown HG3.out (Nat.le_refl _)).trans (Fr.of_below hb3)).grown
    have HRF:Hid (Rd wf rb e bl pr r2 v2):=H3.out.keeps hb3 (by omega)
    have HWF:Hid (wf=(w3.setCell ⟨w.heap.size,0,none⟩ (.string o)).setCell ⟨w.heap.size,1,none⟩ (.slice none 0 0)):=hwf
    have hne:¬w1.heap.size=w.heap.size:=by omega
    have hne':¬w.heap.size=w1.heap.size:=by omega
    clear hres3 hp3 hb3 hwf hk
    go_wp2
    refine bodyPost_ret (v:=.agg #[.string o,.slice none 0 0]) (by simp[results,Tryz.results103,go_sem,e0,e1]) rfl ?_
    rw[←HWF.out]
    exact⟨HGF.out,.inl ⟨_,_,HF.out,_,_,rfl,⟨_,_,_,_,rfl,HV.out⟩,HRF.out⟩⟩
  ·have HF:Par.policyR e ts=.no c2 q2:=by rw[HE1.out,show([58]:List UInt8)=(⟨#[58]⟩:ByteArray).data.toList from rfl,hr2];rfl
   exact⟨rfl,grown_trans HG1'.out hg2,.inr ⟨_,_,HF,rfl,_,_,h2⟩⟩
 ·have HF:Par.policyR e ts=.no c1 q1:=by rw[HE.out,hr1];rfl
  exact⟨rfl,grown_trans (grown_of_below _ hbel) hg1,.inr ⟨_,_,HF,rfl,_,_,h1⟩⟩
theorem policyP {w:World}{rb e:Nat}{bl pr:Int}{ts:List Tok}{v:Value}(h:Rd w rb e bl pr ts v):
 Calls Tryz.prog 103 (#[.pointer (some ⟨rb,0,none⟩)]++#[]) w (Post w rb e bl pr (Par.policyR e ts) (VP w.heap.size)):=policyC h
def VLab (B:Nat)(w':World)(a:List Po)(u:Value):Prop:=∃(ao:Option Addr) (n c:Nat),u=.slice ao n c∧LabV w' (fun b=>B≤b) u a
theorem labelC {w:World}{rb e:Nat}{bl pr:Int}{ts:List Tok}{v:Value}(h:Rd w rb e bl pr ts v):
 Calls Tryz.prog 67 #[.pointer (some ⟨rb,0,none⟩)] w (Post w rb e bl pr (Par.labelR e ts) (VLab w.heap.size)):=by
 have hmf:=mkF
 have HL:=enclP h ⟨#[123]⟩ ⟨#[59]⟩ ⟨#[125]⟩ (by decide) (by decide) (by decide) 200 (by omega) (by omega) 103 #[.pointer (some ⟨rb,0,none⟩)] #[] (enters_of Tryz.func103 (by kernel_rfl) rfl) (Par.policyR e) (fun w' ts' v' _ hr=>policyP hr)
 clear h
 go_enter Tryz.func67,Tryz.ntmps67
 go_wp2_with fail
 refine HL.mono ?_
 rintro x w1 ⟨hg1,⟨l,r1,hr1,u1,v1,rfl,⟨B,hB,ho1⟩,h1⟩|⟨c1,q1,hr1,rfl,r1,v1,h1⟩⟩
 ·obtain⟨ao,c,rfl⟩:=ho1.slice
  have HG:Hid (w.grownBy w1 (some rb)):=hg1
  have HR:Hid (Par.labelR e ts=.ok l r1):=hr1
  have HV:Hid (LabV w1 (fun b=>w.heap.size≤b) (.slice ao l.length c) l):=ho1.label.mono fun b hb _=>by omega
  have H1:Hid (Rd w1 rb e bl pr r1 v1):=h1
  clear hg1 hr1 ho1 h1 HL
  go_wp2
  go_ret
  exact⟨HG.out,.inl ⟨_,_,HR.out,_,_,rfl,⟨_,_,_,rfl,HV.out⟩,H1.out⟩⟩
 ·exact⟨rfl,hg1,.inr ⟨_,_,hr1,rfl,_,_,h1⟩⟩
end Go.Proofs.YtepkhlpjgnckkaaGreatDoor
