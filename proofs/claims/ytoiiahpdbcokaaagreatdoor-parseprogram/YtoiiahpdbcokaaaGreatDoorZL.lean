/- parse's reader of programs: program. And more of the same. -/
import Derived.Test.YtoiiahpdbcokaaaGreatDoorZK
import Derived.Test.YtoiiahpdbcokaaaGreatDoorZF
import Derived.Test.YtoiiahpdbcokaaaGreatDoorZG
import Derived.Lib.AppendZerosOnto
import Derived.Lib.AppendZeros
import Derived.Deep.DeepAppendRoom
namespace Go.Proofs.YtoiiahpdbcokaaaGreatDoor
open Go.IntKind renaming i64 -> I
open Go.Value renaming slice -> O, pointer -> aB
open _root_.Option renaming none -> U, some -> Z
open Go.Addr renaming mk -> Y
open Go.Obj renaming cells -> M, cells -> eV
open Go renaming lt_of_block -> J, World -> au, Value -> aw, Calls -> aC
open _root_.Nat renaming le_refl -> aD, zero_le -> eJ, lt_of_lt_of_le -> gD, le_trans -> fC
open Go.Ending renaming returned -> aE
open Go.RowKit.Below renaming refl -> aF, heap_setCell -> dL
open _root_.Array renaming getElem?_modify -> dM
open Go.World renaming cell? -> aN, setCell -> bw, frozen? -> ea
open _root_.Bool renaming false -> ak, true -> ap
open Go.RowKit renaming Below -> aq, Hid -> ah
open _root_.Go.Proofs.Tryz
set_option maxRecDepth 100000
set_option maxHeartbeats 8000000
open Go.RowKit
open ag (Tok Po Tr nx bI aO ba aA aV cV ii dV bL)
variable {w w' w1 wr wz:au} {b E y d0 d1 d2 d3 e m m0 m1 m2 m3 nc o off V q z qn rb C K:Nat} {v v' x0 x1 x2 x3:aw} {r ts:List Tok} {L:aA bL} {p:bL} {Q co j0 j1 j2 j3 F uo:Oa} {cs xs:Lv} {a:List Tr} {c k y0 y1:Int} {tm:Av} {t:Tr} {S S':Np} {ks:List Int} {l:List Po}
theorem rg {e:TypeId}(h:w.heap[b]? =Z (M #[x0,x1,x2,x3] e)):(w.cell? (Y b 0 U)=Z x0/\w.cell? (Y b 1 U)=Z x1/\w.cell? (Y b 2 U)=Z x2/\w.cell? (Y b 3 U)=Z x3)/\∀i,w.frozen? (Y b i U)=ak:=by
 refine⟨⟨?_,?_,?_,?_⟩,fun i=> ?_⟩<;>simp[aN,ea,h]
theorem ag.iU {b c d:Type}(x:aA b)(f:b->List Tok->aA c)(g:c->List Tok->aA d):(x.bind f).bind g=x.bind fun a r=>(f a r).bind g:=by
 cases x<;>rfl
def VG (B:Nat)(w':au)(p:bL)(u:aw):Prop:=∃(co:Oa) (cn cc:Nat) (ao:Oa) (an ac:Nat) (no:Oa) (nn nc:Nat) (qo:Oa) (qn qc:Nat),u=.agg #[O co cn cc,O ao an ac,O no nn nc,O qo qn qc]/\jj w' (fun b=>B<=b) p [O co cn cc,O ao an ac,O no nn nc,O qo qn qc]
def Q2 (rb:Nat)(w:au):Nat:=lenOf ((w.cell? (Y rb 0 U)).getD undef)
theorem Rd.left {bl a:Int}(h:Rd w rb e bl a ts v):Q2 rb w=ts.length:=by
 obtain⟨Q,c,b⟩:=h.row.val;unfold Q2;rw[h.cells.1,b];simp[lenOf]
structure oB (w wr:au)(rb e pb:Nat)(res:aA bL)(p:bL)(ts:List Tok)(v:aw)(X:Nat->Np)(co:Oa)(cn cc:Nat)(ao:Oa)(an ac:Nat)(no:Oa)(nn nc:Nat)(qo:Oa)(qn qc:Nat):Prop where
 n:wr.heap[w.heap.size]? =Z (M #[O U 0 0,O U 0 0,O U 0 0,O U 0 0] 27)
 s:wr.heap[pb]? =Z (M #[O co cn cc,O ao an ac,O no nn nc,O qo qn qc] 27)
 l0:iV jm wr (pb+1) 9 1 (X 0) (O co cn cc) p.dl
 l1:iV uf wr (pb+1) 55 2 (X 1) (O ao an ac) p.cZ
 l2:iV pu wr (pb+1) 57 5 (X 2) (O no nn nc) p.bz
 l3:iV nH wr (pb+1) 65 9 (X 3) (O qo qn qc) p.procs
 dj:∀i j b,X i b->X j b->i=j
 up:∀i b,X i b->pb<b/\b<wr.heap.size
 len:p.dl.length<=6/\p.cZ.length<=10/\p.bz.length<=6/\p.procs.length<=6
 rd:Rd wr rb e 0 0 ts v
 fr:Fr w.heap.size rb w wr
 eq:res=ag.jq e ts.length p ts
theorem oB.later {d:Nat->Np}{an ac:Nat}{no:Oa}(h:oB w wr rb e V L p ts v d co y E Q an ac no o nc F qn z)(a:Bl wr w')(j:w.heap.size<=V):oB w w' rb e V L p ts v d co y E Q an ac no o nc F qn z:=by
 have f:=a.size;have g:=J h.s;have c:wr.grownBy w' U:=dN _ a;exact⟨(a.block _ (J h.n)).trans h.n,(a.block _ g).trans h.s,h.l0.step fe c (by simp),h.l1.step ia c (by simp),h.l2.step gy c (by simp),h.l3.step gh c (by simp),h.dj,fun i b hx=>⟨(h.up i b hx).1,gD (h.up i b hx).2 f⟩,h.len,h.rd.keeps a h.rd.lt,h.fr.trans (Fr.bm (a.mono (by omega))),h.eq⟩
theorem oB.Ub {g:Nat->Np}{an ac:Nat}{no:Oa}{css:List (Lv)}{a:Bt}(h:oB w wr rb e V L p ts v g co y E Q an ac no o nc F qn z)(mC:w.heap.size<V)(br:rb<w.heap.size)(S:css.length=p.dl.length)(T:∀i (h:i<p.dl.length) (h':i<css.length),jm wr (fun b=>g 0 b/\Z b≠(O co y E:aw).ownBlock) p.dl[i] css[i])
 (bh:p.dl.length≠6) (f:wr.grownBy w1 (Z rb)) (hx:jm w1 (fun b=>wr.heap.size<=b) a xs) (d:w1.grownBy w' (O co y E:aw).ownBlock) (W:w'.ownsRow (V+1) 9 1 (O uo K C) (p.dl.length+1) (css.flatten++xs)) (X:(Value.slice uo K C).ownBlock=(O co y E:aw).ownBlock\/(Value.slice uo K C).ownBlock=Z w1.heap.size) (bj:Rd w1 rb e 0 0 r v') (ad:L=ag.jq e r.length {p with dl:=p.dl++[a]} r):
 oB w (w'.setCell (Y V 0 U) (O uo K C)) rb e V L {p with dl:=p.dl++[a]} r v' (fun j b=>g j b\/(j=0/\wr.heap.size<=b/\b<w'.heap.size)) uo K C Q an ac no o nc F qn z:=by
 have hz:=f.size;have bA:=d.size;have hs:=J h.s;have x:=h.l0.own;have jN:∀k,(O co y E:aw).ownBlock=Z k->V<k:=fun k c=>(h.up 0 k (x k c)).1;have m:∀j,¬g j rb:=fun j hx=>(by have:=(h.up j rb hx).1;omega);have q:∀j,¬g j V:=fun j hx=>(by have:=(h.up j V hx).1;omega);have t:aq (V+1) w1 w':=⟨d.os,d.tape,d.output,d.size,fun k c=>d.block k (by omega) (fun hh=>by have:=jN k hh.symm;omega)⟩;have P:(w'.setCell (Y V 0 U) (O uo K C)).heap.size=w'.heap.size:=(by simp[bw]);have u:w'.grownBy (w'.setCell (Y V 0 U) (O uo K C)) (Z V):=eR (jh _ _) rfl _;have B:aq V w' (w'.setCell (Y V 0 U) (O uo K C)):=(aF _ _).setCell (by simp) _;have qt:=(h.fr.trans (Fr.bP f (by omega))).trans ((Fr.bm (t.mono (by omega))).trans (Fr.bm (B.mono (by omega))));have gF:=(t.block _ (by omega)).trans ((f.block _ hs (by simp;omega)).trans h.s);have G:∀j,j≠0->∀k,(O co y E:aw).ownBlock=Z k->¬g j k:=fun j hj k c hx=>hj (h.dj j 0 k hx (x k c));refine⟨?_,?_,(((iV.add fe x S T (fun b hx=>(h.up 0 b hx).2) (m 0) f hx d W X).mono fe (X':=fun b=>g 0 b\/(0=0/\wr.heap.size<=b/\b<w'.heap.size)) fun b hx hl=>hx.imp id fun h9=>⟨rfl,h9,hl⟩).step fe u fun k c hx=>by cases c;rcases hx with hx |⟨_,hx,_⟩;exact q 0 hx;omega),((((h.l1.step ia f fun k c=>by cases c;exact m 1).step ia d (G 1 (by decide))).step ia u fun k c=>by cases c;exact q 1).mono ia fun b hx _=>.inl hx),((((h.l2.step gy f fun k c=>by cases c;exact m 2).step gy d (G 2 (by decide))).step gy u fun k c=>by cases c;exact q 2).mono gy fun b hx _=>.inl hx),((((h.l3.step gh f fun k c=>by cases c;exact m 3).step gh d (G 3 (by decide))).step gh u fun k c=>by cases c;exact q 3).mono gh fun b hx _=>.inl hx),?_,?_,?_,(bj.keeps t (by omega)).keeps B (by omega),qt,ad⟩
 ·rw[B.block _ (by omega),t.block _ (by omega),f.block _ (by have:=J h.n;omega) (by simp;omega)];exact h.n
 ·simp[bw,dM,gF]
 ·rintro i1 j1 b (l |⟨rfl,l,R⟩) (N |⟨rfl,N,BO⟩)
  ·exact h.dj _ _ b l N
  ·have:=(h.up _ b l).2;omega
  ·have:=(h.up _ b N).2;omega
  ·rfl
 ·rintro i1 b (l |⟨rfl,l,R⟩)
  ·have:=h.up _ b l;rw[P];omega
  ·rw[P];exact⟨by omega,R⟩
 ·have:=h.len;simp;omega
theorem oB.Ua {g:Nat->Np}{an ac:Nat}{no:Oa}{css:List (Lv)}{a:Bt×Bt}(h:oB w wr rb e V L p ts v g co y E Q an ac no o nc F qn z)(mC:w.heap.size<V)(br:rb<w.heap.size)(S:css.length=p.cZ.length)(T:∀i (h:i<p.cZ.length) (h':i<css.length),uf wr (fun b=>g 1 b/\Z b≠(O Q an ac:aw).ownBlock) p.cZ[i] css[i])
 (bh:p.cZ.length≠10) (f:wr.grownBy w1 (Z rb)) (hx:uf w1 (fun b=>wr.heap.size<=b) a xs) (d:w1.grownBy w' (O Q an ac:aw).ownBlock) (W:w'.ownsRow (V+1) 55 2 (O uo K C) (p.cZ.length+1) (css.flatten++xs)) (X:(Value.slice uo K C).ownBlock=(O Q an ac:aw).ownBlock\/(Value.slice uo K C).ownBlock=Z w1.heap.size) (bj:Rd w1 rb e 0 0 r v') (ad:L=ag.jq e r.length {p with cZ:=p.cZ++[a]} r):
 oB w (w'.setCell (Y V 1 U) (O uo K C)) rb e V L {p with cZ:=p.cZ++[a]} r v' (fun j b=>g j b\/(j=1/\wr.heap.size<=b/\b<w'.heap.size)) co y E uo K C no o nc F qn z:=by
 have hz:=f.size;have bA:=d.size;have hs:=J h.s;have x:=h.l1.own;have jN:∀k,(O Q an ac:aw).ownBlock=Z k->V<k:=fun k c=>(h.up 1 k (x k c)).1;have m:∀j,¬g j rb:=fun j hx=>(by have:=(h.up j rb hx).1;omega);have q:∀j,¬g j V:=fun j hx=>(by have:=(h.up j V hx).1;omega);have t:aq (V+1) w1 w':=⟨d.os,d.tape,d.output,d.size,fun k c=>d.block k (by omega) (fun hh=>by have:=jN k hh.symm;omega)⟩;have P:(w'.setCell (Y V 1 U) (O uo K C)).heap.size=w'.heap.size:=(by simp[bw]);have u:w'.grownBy (w'.setCell (Y V 1 U) (O uo K C)) (Z V):=eR (jh _ _) rfl _;have B:aq V w' (w'.setCell (Y V 1 U) (O uo K C)):=(aF _ _).setCell (by simp) _;have qt:=(h.fr.trans (Fr.bP f (by omega))).trans ((Fr.bm (t.mono (by omega))).trans (Fr.bm (B.mono (by omega))));have gF:=(t.block _ (by omega)).trans ((f.block _ hs (by simp;omega)).trans h.s);have G:∀j,j≠1->∀k,(O Q an ac:aw).ownBlock=Z k->¬g j k:=fun j hj k c hx=>hj (h.dj j 1 k hx (x k c));refine⟨?_,?_,((((h.l0.step fe f fun k c=>by cases c;exact m 0).step fe d (G 0 (by decide))).step fe u fun k c=>by cases c;exact q 0).mono fe fun b hx _=>.inl hx),(((iV.add ia x S T (fun b hx=>(h.up 1 b hx).2) (m 1) f hx d W X).mono ia (X':=fun b=>g 1 b\/(1=1/\wr.heap.size<=b/\b<w'.heap.size)) fun b hx hl=>hx.imp id fun h9=>⟨rfl,h9,hl⟩).step ia u fun k c hx=>by cases c;rcases hx with hx |⟨_,hx,_⟩;exact q 1 hx;omega),((((h.l2.step gy f fun k c=>by cases c;exact m 2).step gy d (G 2 (by decide))).step gy u fun k c=>by cases c;exact q 2).mono gy fun b hx _=>.inl hx),((((h.l3.step gh f fun k c=>by cases c;exact m 3).step gh d (G 3 (by decide))).step gh u fun k c=>by cases c;exact q 3).mono gh fun b hx _=>.inl hx),?_,?_,?_,(bj.keeps t (by omega)).keeps B (by omega),qt,ad⟩
 ·rw[B.block _ (by omega),t.block _ (by omega),f.block _ (by have:=J h.n;omega) (by simp;omega)];exact h.n
 ·simp[bw,dM,gF]
 ·rintro i1 j1 b (l |⟨rfl,l,R⟩) (N |⟨rfl,N,BO⟩)
  ·exact h.dj _ _ b l N
  ·have:=(h.up _ b l).2;omega
  ·have:=(h.up _ b N).2;omega
  ·rfl
 ·rintro i1 b (l |⟨rfl,l,R⟩)
  ·have:=h.up _ b l;rw[P];omega
  ·rw[P];exact⟨by omega,R⟩
 ·have:=h.len;simp;omega
theorem oB.LM {g:Nat->Np}{an ac:Nat}{no:Oa}{css:List (Lv)}{a:ii}(h:oB w wr rb e V L p ts v g co y E Q an ac no o nc F qn z)(mC:w.heap.size<V)(br:rb<w.heap.size)(S:css.length=p.bz.length)(T:∀i (h:i<p.bz.length) (h':i<css.length),pu wr (fun b=>g 2 b/\Z b≠(O no o nc:aw).ownBlock) p.bz[i] css[i])
 (bh:p.bz.length≠6) (f:wr.grownBy w1 (Z rb)) (hx:pu w1 (fun b=>wr.heap.size<=b) a xs) (d:w1.grownBy w' (O no o nc:aw).ownBlock) (W:w'.ownsRow (V+1) 57 5 (O uo K C) (p.bz.length+1) (css.flatten++xs)) (X:(Value.slice uo K C).ownBlock=(O no o nc:aw).ownBlock\/(Value.slice uo K C).ownBlock=Z w1.heap.size) (bj:Rd w1 rb e 0 0 r v') (ad:L=ag.jq e r.length {p with bz:=p.bz++[a]} r):
 oB w (w'.setCell (Y V 2 U) (O uo K C)) rb e V L {p with bz:=p.bz++[a]} r v' (fun j b=>g j b\/(j=2/\wr.heap.size<=b/\b<w'.heap.size)) co y E Q an ac uo K C F qn z:=by
 have hz:=f.size;have bA:=d.size;have hs:=J h.s;have x:=h.l2.own;have jN:∀k,(O no o nc:aw).ownBlock=Z k->V<k:=fun k c=>(h.up 2 k (x k c)).1;have m:∀j,¬g j rb:=fun j hx=>(by have:=(h.up j rb hx).1;omega);have q:∀j,¬g j V:=fun j hx=>(by have:=(h.up j V hx).1;omega);have t:aq (V+1) w1 w':=⟨d.os,d.tape,d.output,d.size,fun k c=>d.block k (by omega) (fun hh=>by have:=jN k hh.symm;omega)⟩;have P:(w'.setCell (Y V 2 U) (O uo K C)).heap.size=w'.heap.size:=(by simp[bw]);have u:w'.grownBy (w'.setCell (Y V 2 U) (O uo K C)) (Z V):=eR (jh _ _) rfl _;have B:aq V w' (w'.setCell (Y V 2 U) (O uo K C)):=(aF _ _).setCell (by simp) _;have qt:=(h.fr.trans (Fr.bP f (by omega))).trans ((Fr.bm (t.mono (by omega))).trans (Fr.bm (B.mono (by omega))));have gF:=(t.block _ (by omega)).trans ((f.block _ hs (by simp;omega)).trans h.s);have G:∀j,j≠2->∀k,(O no o nc:aw).ownBlock=Z k->¬g j k:=fun j hj k c hx=>hj (h.dj j 2 k hx (x k c));refine⟨?_,?_,((((h.l0.step fe f fun k c=>by cases c;exact m 0).step fe d (G 0 (by decide))).step fe u fun k c=>by cases c;exact q 0).mono fe fun b hx _=>.inl hx),((((h.l1.step ia f fun k c=>by cases c;exact m 1).step ia d (G 1 (by decide))).step ia u fun k c=>by cases c;exact q 1).mono ia fun b hx _=>.inl hx),(((iV.add gy x S T (fun b hx=>(h.up 2 b hx).2) (m 2) f hx d W X).mono gy (X':=fun b=>g 2 b\/(2=2/\wr.heap.size<=b/\b<w'.heap.size)) fun b hx hl=>hx.imp id fun h9=>⟨rfl,h9,hl⟩).step gy u fun k c hx=>by cases c;rcases hx with hx |⟨_,hx,_⟩;exact q 2 hx;omega),((((h.l3.step gh f fun k c=>by cases c;exact m 3).step gh d (G 3 (by decide))).step gh u fun k c=>by cases c;exact q 3).mono gh fun b hx _=>.inl hx),?_,?_,?_,(bj.keeps t (by omega)).keeps B (by omega),qt,ad⟩
 ·rw[B.block _ (by omega),t.block _ (by omega),f.block _ (by have:=J h.n;omega) (by simp;omega)];exact h.n
 ·simp[bw,dM,gF]
 ·rintro i1 j1 b (l |⟨rfl,l,R⟩) (N |⟨rfl,N,BO⟩)
  ·exact h.dj _ _ b l N
  ·have:=(h.up _ b l).2;omega
  ·have:=(h.up _ b N).2;omega
  ·rfl
 ·rintro i1 b (l |⟨rfl,l,R⟩)
  ·have:=h.up _ b l;rw[P];omega
  ·rw[P];exact⟨by omega,R⟩
 ·have:=h.len;simp;omega
theorem oB.T9 {g:Nat->Np}{an ac:Nat}{no:Oa}{css:List (Lv)}{a:dV}(h:oB w wr rb e V L p ts v g co y E Q an ac no o nc F qn z)(mC:w.heap.size<V)(br:rb<w.heap.size)(S:css.length=p.procs.length)(T:∀i (h:i<p.procs.length) (h':i<css.length),nH wr (fun b=>g 3 b/\Z b≠(O F qn z:aw).ownBlock) p.procs[i] css[i])
 (bh:p.procs.length≠6) (f:wr.grownBy w1 (Z rb)) (hx:nH w1 (fun b=>wr.heap.size<=b) a xs) (d:w1.grownBy w' (O F qn z:aw).ownBlock) (W:w'.ownsRow (V+1) 65 9 (O uo K C) (p.procs.length+1) (css.flatten++xs)) (X:(Value.slice uo K C).ownBlock=(O F qn z:aw).ownBlock\/(Value.slice uo K C).ownBlock=Z w1.heap.size) (bj:Rd w1 rb e 0 0 r v') (ad:L=ag.jq e r.length {p with procs:=p.procs++[a]} r):
 oB w (w'.setCell (Y V 3 U) (O uo K C)) rb e V L {p with procs:=p.procs++[a]} r v' (fun j b=>g j b\/(j=3/\wr.heap.size<=b/\b<w'.heap.size)) co y E Q an ac no o nc uo K C:=by
 have hz:=f.size;have bA:=d.size;have hs:=J h.s;have x:=h.l3.own;have jN:∀k,(O F qn z:aw).ownBlock=Z k->V<k:=fun k c=>(h.up 3 k (x k c)).1;have m:∀j,¬g j rb:=fun j hx=>(by have:=(h.up j rb hx).1;omega);have q:∀j,¬g j V:=fun j hx=>(by have:=(h.up j V hx).1;omega);have t:aq (V+1) w1 w':=⟨d.os,d.tape,d.output,d.size,fun k c=>d.block k (by omega) (fun hh=>by have:=jN k hh.symm;omega)⟩;have P:(w'.setCell (Y V 3 U) (O uo K C)).heap.size=w'.heap.size:=(by simp[bw]);have u:w'.grownBy (w'.setCell (Y V 3 U) (O uo K C)) (Z V):=eR (jh _ _) rfl _;have B:aq V w' (w'.setCell (Y V 3 U) (O uo K C)):=(aF _ _).setCell (by simp) _;have qt:=(h.fr.trans (Fr.bP f (by omega))).trans ((Fr.bm (t.mono (by omega))).trans (Fr.bm (B.mono (by omega))));have gF:=(t.block _ (by omega)).trans ((f.block _ hs (by simp;omega)).trans h.s);have G:∀j,j≠3->∀k,(O F qn z:aw).ownBlock=Z k->¬g j k:=fun j hj k c hx=>hj (h.dj j 3 k hx (x k c));refine⟨?_,?_,((((h.l0.step fe f fun k c=>by cases c;exact m 0).step fe d (G 0 (by decide))).step fe u fun k c=>by cases c;exact q 0).mono fe fun b hx _=>.inl hx),((((h.l1.step ia f fun k c=>by cases c;exact m 1).step ia d (G 1 (by decide))).step ia u fun k c=>by cases c;exact q 1).mono ia fun b hx _=>.inl hx),((((h.l2.step gy f fun k c=>by cases c;exact m 2).step gy d (G 2 (by decide))).step gy u fun k c=>by cases c;exact q 2).mono gy fun b hx _=>.inl hx),(((iV.add gh x S T (fun b hx=>(h.up 3 b hx).2) (m 3) f hx d W X).mono gh (X':=fun b=>g 3 b\/(3=3/\wr.heap.size<=b/\b<w'.heap.size)) fun b hx hl=>hx.imp id fun h9=>⟨rfl,h9,hl⟩).step gh u fun k c hx=>by cases c;rcases hx with hx |⟨_,hx,_⟩;exact q 3 hx;omega),?_,?_,?_,(bj.keeps t (by omega)).keeps B (by omega),qt,ad⟩
 ·rw[B.block _ (by omega),t.block _ (by omega),f.block _ (by have:=J h.n;omega) (by simp;omega)];exact h.n
 ·simp[bw,dM,gF]
 ·rintro i1 j1 b (l |⟨rfl,l,R⟩) (N |⟨rfl,N,BO⟩)
  ·exact h.dj _ _ b l N
  ·have:=(h.up _ b l).2;omega
  ·have:=(h.up _ b N).2;omega
  ·rfl
 ·rintro i1 b (l |⟨rfl,l,R⟩)
  ·have:=h.up _ b l;rw[P];omega
  ·rw[P];exact⟨by omega,R⟩
 ·have:=h.len;simp;omega
theorem age (hA:Gs)(h:Rd w rb e 0 0 ts v):
 aC prog 10 #[aB (Z (Y rb 0 U))] w (dS w rb e 0 0 (ag.vt e ts) (VG w.heap.size)):=by
 have lO:∀(fn:Fn) (first av:Av) (w:au),(Instr.makeFunc fn first av).run prog w=.ok (.func fn first av) w:=fun _ _ _ _=>rfl;have f2:=BR;obtain⟨L,bU⟩:=nm (ag.vt e ts);rw[<-bU];have HA:=am hA;have aK:=h.lt;obtain⟨w0,aI⟩:=nm ((w.alloc (M #[O U 0 0,O U 0 0,O U 0 0,O U 0 0] 27)).alloc (M #[O U 0 0,O U 0 0,O U 0 0,O U 0 0] 27));have bG:=lU aI;have fE:=Ax aI;obtain⟨V,mC⟩:=nm (w.heap.size+1);have AI:ah (oB w w0 rb e V L ⟨[],[],[],[]⟩ ts v (fun _ _=>False) U 0 0 U 0 0 U 0 0 U 0 0):=by
  refine⟨?_,?_,iV.nil _ _ _ _ _ _,iV.nil _ _ _ _ _ _,iV.nil _ _ _ _ _ _,iV.nil _ _ _ _ _ _,fun _ _ _ h=>h.elim,fun _ _ h=>h.elim,by decide,h.keeps bG h.lt,Fr.bm bG,bU⟩
  ·rw[aI];exact cR (cu _ _ _ rfl)
  ·rw[aI,mC];exact cu _ _ _ (by simp)
 have Kg:w.heap.size<V:=(by omega);clear h bU bG hA fE;go_enter func10,ntmps10;go_wp2;rw[<-aI,<-mC];clear aI mC;go_loopw [] (fun wr=>ah (∃p cj v' ae co y E Q an ac no o nc F qn z,oB w wr rb e V L p cj v' ae co y E Q an ac no o nc F qn z)) (fun wr=>Q2 rb wr);case atStart=>exact⟨_,_,_,_,_,_,_,_,_,_,_,_,_,_,_,_,AI.out⟩
 case round=>
  obtain⟨p,cj,v',ae,co,y,E,Q,an,ac,no,o,nc,F,qn,z,hS⟩:=hrel.out;have xU:=am hS.rd.left;clear hrel;cases cj with
  | nil=>
   obtain⟨xo,xc,rfl⟩:=hS.rd.none;obtain⟨c0,_⟩:=hS.rd.cells;have Oi:=hS.rd.lt;obtain⟨⟨b0,b1,b2,b3⟩,be⟩:=rg hS.n;obtain⟨⟨x0,x1,x2,x3⟩,_⟩:=rg hS.s;have y0:=be 0;have y1:=be 1;have y2:=be 2;have y3:=be 3;have l9:=J hS.n;have l8:=J hS.s;have HL:=am hS;clear hS be;go_wp2;obtain⟨wf,bp⟩:=nm ((((wr.setCell (Y w.heap.size 0 U) (O co y E)).setCell (Y w.heap.size 1 U) (O Q an ac)).setCell (Y w.heap.size 2 U) (O no o nc)).setCell (Y w.heap.size 3 U) (O F qn z));have dF:aq w.heap.size wr wf:=by
    rw[bp];iterate 4 refine Below.setCell ?_ (by simp) _
    exact aF _ _
   have fk:aP (fun b=>V<b) _ _:=⟨dF.size,fun b hb _=>by rw[bp];iterate 4 rw[dL _ _ _ _ (by show b≠w.heap.size;omega)]⟩;have jd:wf.heap[w.heap.size]? =Z (M #[O co y E,O Q an ac,O no o nc,O F qn z] 27):=(by rw[bp];simp[bw,dM,HL.n]);rw[<-bp];obtain⟨⟨d0,d1,d2,d3⟩,_⟩:=rg jd;refine bodyPost_ret (v:=.agg #[O co y E,O Q an ac,O no o nc,O F qn z]) (by simp[results,results10,go_sem,d0,d1,d2,d3]) rfl ?_;have u:∀i b,ae i b->V+1<=b:=fun i b hx=>(HL.up i b hx).1;have ax:jj _ (fun b=>V<b) _ [O co y E,O Q an ac,O no o nc,O F qn z]:=⟨_,_,_,_,rfl,(HL.l0.CJ fe (u 0)).strs,(HL.l1.CJ ia (u 1)).rows ia,(HL.l2.CJ gy (u 2)).rows gy,(HL.l3.CJ gh (u 3)).rows gh⟩;exact⟨(HL.fr.trans (Fr.bm dF)).grown,.inl ⟨p,[],HL.eq,_,_,rfl,⟨_,_,_,_,_,_,_,_,_,_,_,_,rfl,(ax.keeps fk).mono fun b hb _=>by omega⟩,HL.rd.keeps dF aK⟩⟩
  | cons t d=>
   obtain⟨b',qe,c',rfl,_,_,Hv,_⟩:=hS.rd.some;have ay:=hS.rd.len;simp only[List.length_cons] at ay;obtain⟨c0,_⟩:=hS.rd.cells;have Oi:=hS.rd.lt;have HL:=am hS;have iy:=yr hS.rd;obtain⟨B,ga⟩:=nm t.2.2;rw[show nx (t::d)=t from rfl,<-ga] at iy;have j:=am ga;unfold maxLen at Hv;clear hS ga;go_wp2_with fail;refine iy.mono ?_;rintro x w3 ⟨rfl,aT⟩;have f:=am (HL.later aT (by omega));have T:=am f.rd;have fM:ah (L=(ag.js e p (t::d)).bind fun q s=>ag.jq e s.length q s):=(by show _=_;rw[f.eq];exact ag.Xs e p);have aX:=T.lt;clear aT iy c0 Oi HL;by_cases n0:B=ag.nl
   ·have Y0:=am n0;have aG:((ba B).toList==[99,104,105,101,102])=ap:=(by rw[fB,n0];decide);clear n0;have G:ah (L=(ag.fT e 6 p.dl (ag.vO e) (t::d)).bind fun l r=>ag.jq e r.length {p with dl:=l} r):=(by show _=_;rw[fM.out];unfold ag.js;rw[if_pos (show(nx (t::d)).2.2=ag.nl by show t.2.2=_;rw[<-j.out];exact Y0.out)];rw[ag.iU];rfl);have mq:ah (∀a r,ag.vO e (t::d)=.ok a r->p.dl.length≠6->r.length<(t::d).length):=(by intro a r h9 h8;refine ag.CH e p (List.cons_ne_nil _ _) (q:={p with dl:=p.dl++[a]}) ?_;unfold ag.js;rw[if_pos (show(nx (t::d)).2.2=ag.nl by show t.2.2=_;rw[<-j.out];exact Y0.out)];unfold ag.fT;rw[if_neg h8,h9];rfl);obtain⟨ai,X,o2,o3⟩:=f.l0.ex;have O3:=am o3;have O2:=am o2;have af:=f.len;have cM:V+1<=w3.heap.size:=(by have:=J f.s;omega);have tu:=Yq T X (by omega) cM 6 (by omega) (by omega) 33 #[aB (Z (Y rb 0 U))] #[] (enters_of func33 (by kernel_rfl) rfl) (ag.vO e (t::d)) (aoE T);obtain⟨⟨x0,x1,x2,x3⟩,_⟩:=rg f.s;have l8:=J f.s;clear X o2 o3 af;go_wp2_with fail;refine tu.mono ?_;rintro x W (⟨hf,rfl,jV⟩|⟨hf,⟨c,q,k,rfl,g,r,v5,hr⟩|⟨a,r,ar,v5,xs,w1,k,rfl,g,hx,N,P,eQ,bj⟩⟩)
    ·have yJ:=jV.symm;subst yJ;refine⟨rfl,f.fr.grown,.inr ⟨_,_,?_,rfl,_,_,T.out⟩⟩;rw[G.out];unfold ag.fT;rw[if_pos hf];rfl
    ·refine⟨rfl,(f.fr.trans (Fr.bP g (by omega))).grown,.inr ⟨c,q,?_,rfl,_,_,hr⟩⟩;rw[G.out];unfold ag.fT;rw[if_neg hf,k];rfl
    obtain⟨uo,C,u⟩:=nt P;obtain⟨K,rK⟩:∃K,p.dl.length+1=K:=⟨_,rfl⟩;rw[rK] at u;subst u;have ad:L=ag.jq e r.length {p with dl:=p.dl++[a]} r:=(by rw[G.out];unfold ag.fT;rw[if_neg hf,k];rfl);have m:=f.Ub Kg aK O2 O3 hf g hx N P eQ bj ad;have xT:=am (mq.out a r k hf);have R:W.heap[V]? =Z (M #[O co y E,O Q an ac,O no o nc,O F qn z] 27):=(by have om:=f.l0.own;rw[N.block _ (by have:=g.size;omega) (fun hh=>by have:=(f.up 0 V (om V hh.symm)).1;omega),g.block _ l8 (by simp;omega)];exact f.s);obtain⟨⟨x0,x1,x2,x3⟩,hz⟩:=rg R;have cL:=hz 0;have l4:=J R;obtain⟨w5,S⟩:=nm (W.setCell (Y V 0 U) (O uo K C));rw[<-S] at m;have qF:ah (∃p cj v' ae co y E Q an ac no o nc F qn z,oB w w5 rb e V L p cj v' ae co y E Q an ac no o nc F qn z):=⟨_,_,_,_,_,_,_,_,_,_,_,_,_,_,_,_,m⟩;have Cc:=am m.rd.left;have xQ:=am S;clear m R hz rK ad g hx N P eQ bj k hf S tu;go_wp2;rw[<-xQ.out];go_roundw;case rel=>exact qF.out
    case measure=>rw[Cc.out,xU.out];exact xT.out
   have N0:=am n0;have aG:((ba B).toList==[99,104,105,101,102])=ak:=(by rw[fB];exact beq_eq_false_iff_ne.mpr n0);by_cases n1:B=ag.oG
   ·have Y1:=am n1;have aH:((ba B).toList==[97,99,116,115])=ap:=(by rw[fB,n1];decide);clear n0 n1;have G:ah (L=(ag.fT e 10 p.cZ (ag.vS e) (t::d)).bind fun l r=>ag.jq e r.length {p with cZ:=l} r):=(by show _=_;rw[fM.out];unfold ag.js;rw[if_neg (show ¬(nx (t::d)).2.2=ag.nl by show ¬t.2.2=_;rw[<-j.out];exact N0.out)];rw[if_pos (show(nx (t::d)).2.2=ag.oG by show t.2.2=_;rw[<-j.out];exact Y1.out)];rw[ag.iU];rfl);have mq:ah (∀a r,ag.vS e (t::d)=.ok a r->p.cZ.length≠10->r.length<(t::d).length):=(by intro a r h9 h8;refine ag.CH e p (List.cons_ne_nil _ _) (q:={p with cZ:=p.cZ++[a]}) ?_;unfold ag.js;rw[if_neg (show ¬(nx (t::d)).2.2=ag.nl by show ¬t.2.2=_;rw[<-j.out];exact N0.out)];rw[if_pos (show(nx (t::d)).2.2=ag.oG by show t.2.2=_;rw[<-j.out];exact Y1.out)];unfold ag.fT;rw[if_neg h8,h9];rfl);obtain⟨ai,X,o2,o3⟩:=f.l1.ex;have O3:=am o3;have O2:=am o2;have af:=f.len;have cM:V+1<=w3.heap.size:=(by have:=J f.s;omega);have tu:=aiG T X (by omega) cM 10 (by omega) (by omega) 35 #[aB (Z (Y rb 0 U))] #[] (enters_of func35 (by kernel_rfl) rfl) (ag.vS e (t::d)) (aqt T);obtain⟨⟨x0,x1,x2,x3⟩,_⟩:=rg f.s;have l8:=J f.s;clear X o2 o3 af;go_wp2_with fail;refine tu.mono ?_;rintro x W (⟨hf,rfl,jV⟩|⟨hf,⟨c,q,k,rfl,g,r,v5,hr⟩|⟨a,r,ar,v5,xs,w1,k,rfl,g,hx,N,P,eQ,bj⟩⟩)
    ·have yJ:=jV.symm;subst yJ;refine⟨rfl,f.fr.grown,.inr ⟨_,_,?_,rfl,_,_,T.out⟩⟩;rw[G.out];unfold ag.fT;rw[if_pos hf];rfl
    ·refine⟨rfl,(f.fr.trans (Fr.bP g (by omega))).grown,.inr ⟨c,q,?_,rfl,_,_,hr⟩⟩;rw[G.out];unfold ag.fT;rw[if_neg hf,k];rfl
    obtain⟨uo,C,u⟩:=nt P;obtain⟨K,rK⟩:∃K,p.cZ.length+1=K:=⟨_,rfl⟩;rw[rK] at u;subst u;have ad:L=ag.jq e r.length {p with cZ:=p.cZ++[a]} r:=(by rw[G.out];unfold ag.fT;rw[if_neg hf,k];rfl);have m:=f.Ua Kg aK O2 O3 hf g hx N P eQ bj ad;have xT:=am (mq.out a r k hf);have R:W.heap[V]? =Z (M #[O co y E,O Q an ac,O no o nc,O F qn z] 27):=(by have om:=f.l1.own;rw[N.block _ (by have:=g.size;omega) (fun hh=>by have:=(f.up 1 V (om V hh.symm)).1;omega),g.block _ l8 (by simp;omega)];exact f.s);obtain⟨⟨x0,x1,x2,x3⟩,hz⟩:=rg R;have bZ:=hz 1;have l4:=J R;obtain⟨w5,S⟩:=nm (W.setCell (Y V 1 U) (O uo K C));rw[<-S] at m;have qF:ah (∃p cj v' ae co y E Q an ac no o nc F qn z,oB w w5 rb e V L p cj v' ae co y E Q an ac no o nc F qn z):=⟨_,_,_,_,_,_,_,_,_,_,_,_,_,_,_,_,m⟩;have Cc:=am m.rd.left;have xQ:=am S;clear m R hz rK ad g hx N P eQ bj k hf S tu;go_wp2;rw[<-xQ.out];go_roundw;case rel=>exact qF.out
    case measure=>rw[Cc.out,xU.out];exact xT.out
   have N1:=am n1;have aH:((ba B).toList==[97,99,116,115])=ak:=(by rw[fB];exact beq_eq_false_iff_ne.mpr n1);by_cases n2:B=ag.mN
   ·have YO:ah (B=ag.mN\/B=ag.sA):=.inl n2;have aJ:((ba B).toList==[105,110])=ap:=(by rw[fB,n2];decide);clear n0 n1 n2;have G:ah (L=(ag.fT e 6 p.bz (ag.td e) (t::d)).bind fun l r=>ag.jq e r.length {p with bz:=l} r):=(by show _=_;rw[fM.out];unfold ag.js;rw[if_neg (show ¬(nx (t::d)).2.2=ag.nl by show ¬t.2.2=_;rw[<-j.out];exact N0.out)];rw[if_neg (show ¬(nx (t::d)).2.2=ag.oG by show ¬t.2.2=_;rw[<-j.out];exact N1.out)];rw[if_pos (show(nx (t::d)).2.2=ag.mN\/(nx (t::d)).2.2=ag.sA by show t.2.2=_\/t.2.2=_;rw[<-j.out];exact YO.out)];rw[ag.iU];rfl);have mq:ah (∀a r,ag.td e (t::d)=.ok a r->p.bz.length≠6->r.length<(t::d).length):=(by intro a r h9 h8;refine ag.CH e p (List.cons_ne_nil _ _) (q:={p with bz:=p.bz++[a]}) ?_;unfold ag.js;rw[if_neg (show ¬(nx (t::d)).2.2=ag.nl by show ¬t.2.2=_;rw[<-j.out];exact N0.out)];rw[if_neg (show ¬(nx (t::d)).2.2=ag.oG by show ¬t.2.2=_;rw[<-j.out];exact N1.out)];rw[if_pos (show(nx (t::d)).2.2=ag.mN\/(nx (t::d)).2.2=ag.sA by show t.2.2=_\/t.2.2=_;rw[<-j.out];exact YO.out)];unfold ag.fT;rw[if_neg h8,h9];rfl);obtain⟨ai,X,o2,o3⟩:=f.l2.ex;have O3:=am o3;have O2:=am o2;have af:=f.len;have cM:V+1<=w3.heap.size:=(by have:=J f.s;omega);have tu:=Yr T X (by omega) cM 6 (by omega) (by omega) 37 #[aB (Z (Y rb 0 U))] #[] (enters_of func37 (by kernel_rfl) rfl) (ag.td e (t::d)) (abP T);obtain⟨⟨x0,x1,x2,x3⟩,_⟩:=rg f.s;have l8:=J f.s;clear X o2 o3 af;go_wp2_with fail;refine tu.mono ?_;rintro x W (⟨hf,rfl,jV⟩|⟨hf,⟨c,q,k,rfl,g,r,v5,hr⟩|⟨a,r,ar,v5,xs,w1,k,rfl,g,hx,N,P,eQ,bj⟩⟩)
    ·have yJ:=jV.symm;subst yJ;refine⟨rfl,f.fr.grown,.inr ⟨_,_,?_,rfl,_,_,T.out⟩⟩;rw[G.out];unfold ag.fT;rw[if_pos hf];rfl
    ·refine⟨rfl,(f.fr.trans (Fr.bP g (by omega))).grown,.inr ⟨c,q,?_,rfl,_,_,hr⟩⟩;rw[G.out];unfold ag.fT;rw[if_neg hf,k];rfl
    obtain⟨uo,C,u⟩:=nt P;obtain⟨K,rK⟩:∃K,p.bz.length+1=K:=⟨_,rfl⟩;rw[rK] at u;subst u;have ad:L=ag.jq e r.length {p with bz:=p.bz++[a]} r:=(by rw[G.out];unfold ag.fT;rw[if_neg hf,k];rfl);have m:=f.LM Kg aK O2 O3 hf g hx N P eQ bj ad;have xT:=am (mq.out a r k hf);have R:W.heap[V]? =Z (M #[O co y E,O Q an ac,O no o nc,O F qn z] 27):=(by have om:=f.l2.own;rw[N.block _ (by have:=g.size;omega) (fun hh=>by have:=(f.up 2 V (om V hh.symm)).1;omega),g.block _ l8 (by simp;omega)];exact f.s);obtain⟨⟨x0,x1,x2,x3⟩,hz⟩:=rg R;have bA:=hz 2;have l4:=J R;obtain⟨w5,S⟩:=nm (W.setCell (Y V 2 U) (O uo K C));rw[<-S] at m;have qF:ah (∃p cj v' ae co y E Q an ac no o nc F qn z,oB w w5 rb e V L p cj v' ae co y E Q an ac no o nc F qn z):=⟨_,_,_,_,_,_,_,_,_,_,_,_,_,_,_,_,m⟩;have Cc:=am m.rd.left;have xQ:=am S;clear m R hz rK ad g hx N P eQ bj k hf S tu;go_wp2;rw[<-xQ.out];go_roundw;case rel=>exact qF.out
    case measure=>rw[Cc.out,xU.out];exact xT.out
   have N2:=am n2;have aJ:((ba B).toList==[105,110])=ak:=(by rw[fB];exact beq_eq_false_iff_ne.mpr n2);by_cases n3:B=ag.sA
   ·have YO:ah (B=ag.mN\/B=ag.sA):=.inr n3;have aM:((ba B).toList==[111,117,116])=ap:=(by rw[fB,n3];decide);clear n0 n1 n2 n3;have G:ah (L=(ag.fT e 6 p.bz (ag.td e) (t::d)).bind fun l r=>ag.jq e r.length {p with bz:=l} r):=(by show _=_;rw[fM.out];unfold ag.js;rw[if_neg (show ¬(nx (t::d)).2.2=ag.nl by show ¬t.2.2=_;rw[<-j.out];exact N0.out)];rw[if_neg (show ¬(nx (t::d)).2.2=ag.oG by show ¬t.2.2=_;rw[<-j.out];exact N1.out)];rw[if_pos (show(nx (t::d)).2.2=ag.mN\/(nx (t::d)).2.2=ag.sA by show t.2.2=_\/t.2.2=_;rw[<-j.out];exact YO.out)];rw[ag.iU];rfl);have mq:ah (∀a r,ag.td e (t::d)=.ok a r->p.bz.length≠6->r.length<(t::d).length):=(by intro a r h9 h8;refine ag.CH e p (List.cons_ne_nil _ _) (q:={p with bz:=p.bz++[a]}) ?_;unfold ag.js;rw[if_neg (show ¬(nx (t::d)).2.2=ag.nl by show ¬t.2.2=_;rw[<-j.out];exact N0.out)];rw[if_neg (show ¬(nx (t::d)).2.2=ag.oG by show ¬t.2.2=_;rw[<-j.out];exact N1.out)];rw[if_pos (show(nx (t::d)).2.2=ag.mN\/(nx (t::d)).2.2=ag.sA by show t.2.2=_\/t.2.2=_;rw[<-j.out];exact YO.out)];unfold ag.fT;rw[if_neg h8,h9];rfl);obtain⟨ai,X,o2,o3⟩:=f.l2.ex;have O3:=am o3;have O2:=am o2;have af:=f.len;have cM:V+1<=w3.heap.size:=(by have:=J f.s;omega);have tu:=Yr T X (by omega) cM 6 (by omega) (by omega) 37 #[aB (Z (Y rb 0 U))] #[] (enters_of func37 (by kernel_rfl) rfl) (ag.td e (t::d)) (abP T);obtain⟨⟨x0,x1,x2,x3⟩,_⟩:=rg f.s;have l8:=J f.s;clear X o2 o3 af;go_wp2_with fail;refine tu.mono ?_;rintro x W (⟨hf,rfl,jV⟩|⟨hf,⟨c,q,k,rfl,g,r,v5,hr⟩|⟨a,r,ar,v5,xs,w1,k,rfl,g,hx,N,P,eQ,bj⟩⟩)
    ·have yJ:=jV.symm;subst yJ;refine⟨rfl,f.fr.grown,.inr ⟨_,_,?_,rfl,_,_,T.out⟩⟩;rw[G.out];unfold ag.fT;rw[if_pos hf];rfl
    ·refine⟨rfl,(f.fr.trans (Fr.bP g (by omega))).grown,.inr ⟨c,q,?_,rfl,_,_,hr⟩⟩;rw[G.out];unfold ag.fT;rw[if_neg hf,k];rfl
    obtain⟨uo,C,u⟩:=nt P;obtain⟨K,rK⟩:∃K,p.bz.length+1=K:=⟨_,rfl⟩;rw[rK] at u;subst u;have ad:L=ag.jq e r.length {p with bz:=p.bz++[a]} r:=(by rw[G.out];unfold ag.fT;rw[if_neg hf,k];rfl);have m:=f.LM Kg aK O2 O3 hf g hx N P eQ bj ad;have xT:=am (mq.out a r k hf);have R:W.heap[V]? =Z (M #[O co y E,O Q an ac,O no o nc,O F qn z] 27):=(by have om:=f.l2.own;rw[N.block _ (by have:=g.size;omega) (fun hh=>by have:=(f.up 2 V (om V hh.symm)).1;omega),g.block _ l8 (by simp;omega)];exact f.s);obtain⟨⟨x0,x1,x2,x3⟩,hz⟩:=rg R;have bA:=hz 2;have l4:=J R;obtain⟨w5,S⟩:=nm (W.setCell (Y V 2 U) (O uo K C));rw[<-S] at m;have qF:ah (∃p cj v' ae co y E Q an ac no o nc F qn z,oB w w5 rb e V L p cj v' ae co y E Q an ac no o nc F qn z):=⟨_,_,_,_,_,_,_,_,_,_,_,_,_,_,_,_,m⟩;have Cc:=am m.rd.left;have xQ:=am S;clear m R hz rK ad g hx N P eQ bj k hf S tu;go_wp2;rw[<-xQ.out];go_roundw;case rel=>exact qF.out
    case measure=>rw[Cc.out,xU.out];exact xT.out
   have N3:=am n3;have aM:((ba B).toList==[111,117,116])=ak:=(by rw[fB];exact beq_eq_false_iff_ne.mpr n3);by_cases n4:B=ag.yf
   ·have Y4:=am n4;have aW:((ba B).toList==[112,114,111,99])=ap:=(by rw[fB,n4];decide);clear n0 n1 n2 n3 n4;have G:ah (L=(ag.fT e 6 p.procs (ag.vu e) (t::d)).bind fun l r=>ag.jq e r.length {p with procs:=l} r):=(by show _=_;rw[fM.out];unfold ag.js;rw[if_neg (show ¬(nx (t::d)).2.2=ag.nl by show ¬t.2.2=_;rw[<-j.out];exact N0.out)];rw[if_neg (show ¬(nx (t::d)).2.2=ag.oG by show ¬t.2.2=_;rw[<-j.out];exact N1.out)];rw[if_neg (show ¬((nx (t::d)).2.2=ag.mN\/(nx (t::d)).2.2=ag.sA) by show ¬(t.2.2=_\/t.2.2=_);rw[<-j.out];exact fun h=>h.elim N2.out N3.out)];rw[if_pos (show(nx (t::d)).2.2=ag.yf by show t.2.2=_;rw[<-j.out];exact Y4.out)];rw[ag.iU];rfl);have mq:ah (∀a r,ag.vu e (t::d)=.ok a r->p.procs.length≠6->r.length<(t::d).length):=(by intro a r h9 h8;refine ag.CH e p (List.cons_ne_nil _ _) (q:={p with procs:=p.procs++[a]}) ?_;unfold ag.js;rw[if_neg (show ¬(nx (t::d)).2.2=ag.nl by show ¬t.2.2=_;rw[<-j.out];exact N0.out)];rw[if_neg (show ¬(nx (t::d)).2.2=ag.oG by show ¬t.2.2=_;rw[<-j.out];exact N1.out)];rw[if_neg (show ¬((nx (t::d)).2.2=ag.mN\/(nx (t::d)).2.2=ag.sA) by show ¬(t.2.2=_\/t.2.2=_);rw[<-j.out];exact fun h=>h.elim N2.out N3.out)];rw[if_pos (show(nx (t::d)).2.2=ag.yf by show t.2.2=_;rw[<-j.out];exact Y4.out)];unfold ag.fT;rw[if_neg h8,h9];rfl);obtain⟨ai,X,o2,o3⟩:=f.l3.ex;have O3:=am o3;have O2:=am o2;have af:=f.len;have cM:V+1<=w3.heap.size:=(by have:=J f.s;omega);have tu:=aiC T X (by omega) cM 6 (by omega) (by omega) 39 #[aB (Z (Y rb 0 U))] #[] (enters_of func39 (by kernel_rfl) rfl) (ag.vu e (t::d)) (ags HA T);obtain⟨⟨x0,x1,x2,x3⟩,_⟩:=rg f.s;have l8:=J f.s;clear X o2 o3 af;go_wp2_with fail;refine tu.mono ?_;rintro x W (⟨hf,rfl,jV⟩|⟨hf,⟨c,q,k,rfl,g,r,v5,hr⟩|⟨a,r,ar,v5,xs,w1,k,rfl,g,hx,N,P,eQ,bj⟩⟩)
    ·have yJ:=jV.symm;subst yJ;refine⟨rfl,f.fr.grown,.inr ⟨_,_,?_,rfl,_,_,T.out⟩⟩;rw[G.out];unfold ag.fT;rw[if_pos hf];rfl
    ·refine⟨rfl,(f.fr.trans (Fr.bP g (by omega))).grown,.inr ⟨c,q,?_,rfl,_,_,hr⟩⟩;rw[G.out];unfold ag.fT;rw[if_neg hf,k];rfl
    obtain⟨uo,C,u⟩:=nt P;obtain⟨K,rK⟩:∃K,p.procs.length+1=K:=⟨_,rfl⟩;rw[rK] at u;subst u;have ad:L=ag.jq e r.length {p with procs:=p.procs++[a]} r:=(by rw[G.out];unfold ag.fT;rw[if_neg hf,k];rfl);have m:=f.T9 Kg aK O2 O3 hf g hx N P eQ bj ad;have xT:=am (mq.out a r k hf);have R:W.heap[V]? =Z (M #[O co y E,O Q an ac,O no o nc,O F qn z] 27):=(by have om:=f.l3.own;rw[N.block _ (by have:=g.size;omega) (fun hh=>by have:=(f.up 3 V (om V hh.symm)).1;omega),g.block _ l8 (by simp;omega)];exact f.s);obtain⟨⟨x0,x1,x2,x3⟩,hz⟩:=rg R;have qg:=hz 3;have l4:=J R;obtain⟨w5,S⟩:=nm (W.setCell (Y V 3 U) (O uo K C));rw[<-S] at m;have qF:ah (∃p cj v' ae co y E Q an ac no o nc F qn z,oB w w5 rb e V L p cj v' ae co y E Q an ac no o nc F qn z):=⟨_,_,_,_,_,_,_,_,_,_,_,_,_,_,_,_,m⟩;have Cc:=am m.rd.left;have xQ:=am S;clear m R hz rK ad g hx N P eQ bj k hf S tu;go_wp2;rw[<-xQ.out];go_roundw;case rel=>exact qF.out
    case measure=>rw[Cc.out,xU.out];exact xT.out
   have N4:=am n4;have aW:((ba B).toList==[112,114,111,99])=ak:=(by rw[fB];exact beq_eq_false_iff_ne.mpr n4);have qH:ah (L=.no 1 (bI e (t::d))):=(by show _=_;rw[fM.out];unfold ag.js;rw[if_neg (show ¬(nx (t::d)).2.2=ag.nl by show ¬t.2.2=_;rw[<-j.out];exact N0.out)];rw[if_neg (show ¬(nx (t::d)).2.2=ag.oG by show ¬t.2.2=_;rw[<-j.out];exact N1.out)];rw[if_neg (show ¬((nx (t::d)).2.2=ag.mN\/(nx (t::d)).2.2=ag.sA) by show ¬(t.2.2=_\/t.2.2=_);rw[<-j.out];exact fun h=>h.elim N2.out N3.out)];rw[if_neg (show ¬(nx (t::d)).2.2=ag.yf by show ¬t.2.2=_;rw[<-j.out];exact N4.out)];rfl);clear n0 n1 n2 n3 n4;go_wp2_with fail;refine(tJ _ T).mono ?_;rintro x W ⟨rfl,jV⟩;have yJ:=jV.symm;subst yJ;exact⟨rfl,f.fr.grown,.inr ⟨_,_,qH.out,rfl,_,_,T.out⟩⟩
open ag (Tok Po Tr nx bI aO ba aA)
theorem aoW (p:Addr)(w:au):
 CallsD prog 29 #[aB (Z p)] .returning w fun x a w'=>x=aE (.tuple #[])/\a=.returning/\w'=w:=by
 refine callsD_of_wpS func29 rfl fun b cs c=> ?_;apply wpS_seq;apply wpS_region;simp[wpOpsS,go_sem,recoverD,c,ntmps29,Exit.thenS];refine wpS_of_wp ?_;show Code.wp _ _ _ {tmps:=#[aB (Z p),.nilIface,undef,undef,.nilIface,undef,undef,undef,undef,undef,undef,undef,undef,undef,undef,undef],defers:=[]} w;go_wp2;cases b
 simp_all [bodyPostS,results,results29]
theorem aoV (a:Nat)(c:Int)(q:Nat)(w:au)(hf:w.heap[a]? =Z (M #[.int I y0,.int I y1] 30)):
 CallsD prog 29 #[aB (Z (Y a 0 U))] (.panicking [{v:=rA c q,recovered:=ak}]) w fun x f w'=>x=aE (.tuple #[])/\f=.panicking [{v:=rA c q,recovered:=ap}]/\w'.heap[a]? =Z (M #[.int I c,.int I (q:Int)] 30)/\w.grownBy w' (Z a):=by
 refine callsD_of_wpS func29 rfl fun i cs g=> ?_;apply wpS_seq;apply wpS_region;simp[wpOpsS,go_sem,recoverD,g,ntmps29,Exit.thenS];have j:=J hf;obtain⟨⟨k,l⟩,m,n⟩:(w.cell? (Y a 0 U)=Z (.int I y0)/\w.cell? (Y a 1 U)=Z (.int I y1))/\w.frozen? (Y a 0 U)=ak/\w.frozen? (Y a 1 U)=ak:=(by refine⟨⟨?_,?_⟩,?_,?_⟩<;>simp[aN,ea,hf]);refine wpS_of_wp ?_;show Code.wp _ _ _ {tmps:=#[aB (Z (Y a 0 U)),rA c q,undef,undef,rA c q,undef,undef,undef,undef,undef,undef,undef,undef,undef,undef,undef],defers:=[]} w;unfold rA;have o:∀(v:aw) (w:au),(Instr.typeAssert (.iface 75 v) 20 75 ap).run prog w=.ok (.tuple #[v,.bool ap]) w:=fun _ _=>(by kernel_rfl);have d:∀b,(((w.setCell (Y a 0 U) (.int I c)).setCell (Y a 1 U) (.int I (q:Int))).alloc b).heap[a]? =Z (M #[.int I c,.int I (q:Int)] 30):=fun b=>cR (by simp[bw,dM,hf]);have e:∀b,w.grownBy (((w.setCell (Y a 0 U) (.int I c)).setCell (Y a 1 U) (.int I (q:Int))).alloc b) (Z a):=by
  intro b;refine BP ?_ _;refine eR ?_ rfl _;refine eR ?_ rfl _;exact jh _ _
 have h:=am (aj d e);clear d e;go_wp2;obtain⟨d,e⟩:=h.out;exact⟨rfl,_,rfl,.tuple #[],by simp[results,results29],rfl,rfl,d _,e _⟩
open ag (aV cV ii dV bL Tok Po Tr nx bI aO ba aA)
def ZG:Av:=#[O U 0 0,O U 0 0,O U 0 0,O U 0 0]
theorem kM {e:TypeId}(h:w.heap[b]? =Z (M #[x0,x1,x2,x3] e)):(w.cell? (Y b 0 U)=Z x0/\w.cell? (Y b 1 U)=Z x1/\w.cell? (Y b 2 U)=Z x2/\w.cell? (Y b 3 U)=Z x3)/\w.frozen? (Y b 0 U)=ak/\w.frozen? (Y b 1 U)=ak/\w.frozen? (Y b 2 U)=ak/\w.frozen? (Y b 3 U)=ak:=⟨(rg h).1,(rg h).2 0,(rg h).2 1,(rg h).2 2,(rg h).2 3⟩
def aqB (rb e:Nat):Prop:=∀(w:au) (ts:List Tok) (v:aw),Rd w rb e 0 0 ts v->aC prog 10 #[aB (Z (Y rb 0 U))] w (dS w rb e 0 0 (ag.vt e ts) (VG w.heap.size))
def TH (fb:Nat):Deferred:={target:=.fn (.func 29) #[aB (Z (Y fb 0 U))],args:=#[]}
def qL (w:au)(res:aA bL)(x:Ending)(w':au):Prop:=
 Bl w w'∧((∃t,res=.ok t []∧∃(j0:Oa) (m0 d0:Nat) (j1:Oa) (m1 d1:Nat) (j2:Oa) (m2 d2:Nat) (j3:Oa) (m3 d3:Nat),x=aE (.tuple #[.agg #[O j0 m0 d0,O j1 m1 d1,O j2 m2 d2,O j3 m3 d3],.agg #[.int I 0,.int I 0]])∧jj w' (fun b=>w.heap.size≤b) t [O j0 m0 d0,O j1 m1 d1,O j2 m2 d2,O j3 m3 d3])∨
  (∃c q,res=.no c q∧x=aE (.tuple #[.agg ZG,.agg #[.int I c,.int I ((q:Nat):Int)]])))
theorem aaU (a:Bl w wz)(d:wz.heap[w.heap.size]? =Z (M ZG 27))(hf:wz.heap[w.heap.size+1]? =Z (M #[.int I y0,.int I y1] 30))
 (g:tm[4]? =Z (aB (Z (Y w.heap.size 0 U)))) (h:tm[5]? =Z (aB (Z (Y (w.heap.size+1) 0 U)))) (i:L=.no c q):
 Leaves prog f9 tm (qL w L) [TH (w.heap.size+1)] (.panicking [{v:=rA c q,recovered:=ak}]) wz:=by
 refine leaves_cons (f:=29) (args:=#[aB (Z (Y (w.heap.size+1) 0 U))]) (by simp) (by simp[go_sem]) ?_;refine(aoV (w.heap.size+1) c q wz hf).mono ?_;rintro x s t ⟨rfl,rfl,hn,b⟩;have e:=(b.block _ (J d) (by simp)).trans d;unfold ZG at e;obtain⟨⟨j,l,m,n⟩,_⟩:=kM e;have o:=cl hn 0 rfl;have p:=cl hn 1 rfl;refine⟨.tuple #[.agg ZG,.agg #[.int I c,.int I (q:Int)]],by simp[results,results9,go_sem,g,h,j,l,m,n,o,p,ZG],⟨b.os.trans a.os,b.tape.trans a.tape,b.output.trans a.output,fC a.size b.size,fun k r=>(b.block k (by have:=a.size;omega) (by simp;omega)).trans (a.block k r)⟩,.inr ⟨c,q,i,rfl⟩⟩
theorem amn {t:bL}(a:Bl w wz)(c:wz.heap[w.heap.size]? =Z (M #[O j0 m0 d0,O j1 m1 d1,O j2 m2 d2,O j3 m3 d3] 27))(hf:wz.heap[w.heap.size+1]? =Z (M #[.int I 0,.int I 0] 30))
 (d:tm[4]? =Z (aB (Z (Y w.heap.size 0 U)))) (e:tm[5]? =Z (aB (Z (Y (w.heap.size+1) 0 U)))) (g:L=.ok t []) (h:jj wz (fun b=>w.heap.size<=b) t [O j0 m0 d0,O j1 m1 d1,O j2 m2 d2,O j3 m3 d3]):
 Leaves prog f9 tm (qL w L) [TH (w.heap.size+1)] .returning wz:=by
 refine leaves_cons (f:=29) (args:=#[aB (Z (Y (w.heap.size+1) 0 U))]) (by simp) (by simp[go_sem]) ?_;refine(aoW (Y (w.heap.size+1) 0 U) wz).mono ?_;rintro x p q ⟨rfl,rfl,i⟩;subst i;obtain⟨⟨j,k,l,m⟩,_⟩:=kM c;have n:=cl hf 0 rfl;have o:=cl hf 1 rfl;exact⟨.tuple #[.agg #[O j0 m0 d0,O j1 m1 d1,O j2 m2 d2,O j3 m3 d3],.agg #[.int I 0,.int I 0]],by simp[results,results9,go_sem,d,e,j,k,l,m,n,o],a,.inl ⟨t,g,_,_,_,_,_,_,_,_,_,_,_,_,rfl,h⟩⟩
theorem amm (b:Bl w wz)(a:wz.heap[w.heap.size]? =Z (M ZG 27))(hf:wz.heap[w.heap.size+1]? =Z (M #[.int I c,.int I (q:Int)] 30))
 (d:tm[4]? =Z (aB (Z (Y w.heap.size 0 U)))) (e:tm[5]? =Z (aB (Z (Y (w.heap.size+1) 0 U)))) (f:L=.no c q):
 Leaves prog f9 tm (qL w L) [] .returning wz:=by
 unfold ZG at a;obtain⟨⟨g,h,i,j⟩,_⟩:=kM a;have k:=cl hf 0 rfl;have l:=cl hf 1 rfl;exact⟨.tuple #[.agg ZG,.agg #[.int I c,.int I (q:Int)]],by simp[results,results9,go_sem,d,e,g,h,i,j,k,l,ZG],b,.inr ⟨c,q,f,rfl⟩⟩
theorem amo (a:Bl w wz)(b:wz.heap[w.heap.size]? =Z (M ZG 27))(hf:wz.heap[w.heap.size+1]? =Z (M #[.int I c,.int I (q:Int)] 30))
 (d:tm[4]? =Z (aB (Z (Y w.heap.size 0 U)))) (e:tm[5]? =Z (aB (Z (Y (w.heap.size+1) 0 U)))) (f:L=.no c q):
 Leaves prog f9 tm (qL w L) [] .returning wz.drew:=amm (wz:=wz.drew) a.drew b hf d e f
theorem amp {t:bL}(a:Obj)(c:Bl w wz)(d:wz.heap[w.heap.size]? =Z (M #[O j0 m0 d0,O j1 m1 d1,O j2 m2 d2,O j3 m3 d3] 27))(hf:wz.heap[w.heap.size+1]? =Z (M #[.int I 0,.int I 0] 30))
 (e:tm[4]? =Z (aB (Z (Y w.heap.size 0 U)))) (f:tm[5]? =Z (aB (Z (Y (w.heap.size+1) 0 U)))) (g:L=.ok t []) (h:jj wz (fun b=>w.heap.size<=b) t [O j0 m0 d0,O j1 m1 d1,O j2 m2 d2,O j3 m3 d3]):
 Leaves prog f9 tm (qL w L) [TH (w.heap.size+1)] .returning (wz.alloc a):=
 amn (wz:=wz.alloc a) (c.alloc c.size _) (cR d) (cR hf) e f g (h.keeps (aP.bm ((aF _ _).alloc (aD _) _)))
theorem xH {n:Nat}{e a:TypeId}(c:wz.heap[n]? =Z (M #[x0,x1,x2,x3] e))(hf:wz.heap[n+1]? =Z (M #[.int I y0,.int I y1] a)){a0 a1 a2 a3 b0 b1:aw}(d:aq n w wz):
 aq n w ((((((wz.setCell (Y n 0 U) a0).setCell (Y n 1 U) a1).setCell (Y n 2 U) a2).setCell (Y n 3 U) a3).setCell (Y (n+1) 0 U) b0).setCell (Y (n+1) 1 U) b1)/\((((((wz.setCell (Y n 0 U) a0).setCell (Y n 1 U) a1).setCell (Y n 2 U) a2).setCell (Y n 3 U) a3).setCell (Y (n+1) 0 U) b0).setCell (Y (n+1) 1 U) b1).heap[n]? =Z (M #[a0,a1,a2,a3] e)/\((((((wz.setCell (Y n 0 U) a0).setCell (Y n 1 U) a1).setCell (Y n 2 U) a2).setCell (Y n 3 U) a3).setCell (Y (n+1) 0 U) b0).setCell (Y (n+1) 1 U) b1).heap[n+1]? =Z (M #[b0,b1] a)/\∀b,b≠n->b≠n+1->((((((wz.setCell (Y n 0 U) a0).setCell (Y n 1 U) a1).setCell (Y n 2 U) a2).setCell (Y n 3 U) a3).setCell (Y (n+1) 0 U) b0).setCell (Y (n+1) 1 U) b1).heap[b]? =wz.heap[b]? :=by
 refine⟨?_,by simp[bw,dM,c],by simp[bw,dM,hf],fun b f g=> ?_⟩
 ·iterate 6 refine Below.setCell ?_ (by simp) _
  exact d
 ·iterate 2 rw[dL _ _ _ _ g]
  iterate 4 rw[dL _ _ _ _ f]
theorem adE (hE:∀rb e,aqB rb e)(s:Bt)(w:au)(hs:s.size<=maxLen)(hl:gU w w.heap.size):
 aC prog 9 #[.string s,.func (.func 10) #[] #[]] w (qL w (ag.qN s.data.toList)):=by
 have lO:∀(fn:Fn) (first u:Av) (w:au),(Instr.makeFunc fn first u).run prog w=.ok (.func fn first u) w:=fun _ _ _ _=>rfl;obtain⟨w0,n⟩:=nm ((w.alloc (M ZG 27)).alloc (M #[.int I 0,.int I 0] 30));have cw:=lU n;have fE:=Ax n;have bU:=ab n;have rR:=ac n;have DI:=Xb s w0 hs;have HE:=am hE;have HL:=am hl;have HB:=am cw;have V:=am (aj bU rR);unfold ZG at n;clear hE hl cw bU rR
 go_enter_defers func9,ntmps9
 go_wp2_with fail;rw[<-n];clear n;refine DI.mono ?_;rintro e w1 ⟨v,l,c,q,rfl,CV,W,z⟩;obtain⟨Q,u,rfl⟩:=Jr W;have bZ:=z.size;have G:=(z.block _ (by omega)).trans V.1;have K:=(z.block _ (by omega)).trans V.2;have cX:=am (HB.trans (z.mono (by omega)));have HO:=am W;have X:ah (Lex.jK s.data.toList=(l,c,q)):=CV;have L:=am (aj G K);have l1:=J K;unfold ZG at G;obtain⟨⟨r0,r1,r2,r3⟩,p0,p1,p2,p3⟩:=kM G;obtain⟨⟨g0,g1⟩,f0,f1⟩:=xJ K;have l2:w.heap.size<w1.heap.size:=(by omega);clear z W CV G K DI HB V;by_cases N:c=0
 ·subst N;obtain⟨g,o⟩:∃g,g=(w1.setCell (Y (w.heap.size+1) 0 U) (.int I 0)).setCell (Y (w.heap.size+1) 1 U) (.int I (q:Int)):=⟨_,rfl⟩;have xj:g.heap.size=w1.heap.size:=(by rw[o];simp[bw]);have P:Bl w g:=(by rw[o];exact(cX.setCell (by simp) _).setCell (by simp) _);have om:g.ownsRow w0.heap.size 81 3 (O Q l.length u) l.length (Lex.cellsOf l):=(by rw[o];exact ownsRow_setCell_below (ownsRow_setCell_below HO.out (by show w.heap.size+1<_;omega) _) (by show w.heap.size+1<_;omega) _);have jP:gU g g.heap.size:=(HL.keeps P.size fun b hb=>P.block b hb).mono (by omega);have S:=Xk jP om X.out;rw[Lex.df] at S;have Af:g.heap[w.heap.size]? =Z (M ZG 27):=(by rw[o];exact nz (nz L.1 (by simp)) (by simp));have vH:g.heap[w.heap.size+1]? =Z (M #[.int I 0,.int I (q:Int)] 30):=(by rw[o];simp[bw,dM,L.2]);obtain⟨wr,y⟩:=nm (g.alloc (M #[O Q l.length u,.int I (s.size:Int),.int I 0,.int I 0] 78));rw[<-y] at S;have f:ah (Bl w wr):=(by rw[y];exact P.alloc (by omega) _);have i:ah (wr.heap[w.heap.size]? =Z (M ZG 27)/\wr.heap[w.heap.size+1]? =Z (M #[.int I 0,.int I (q:Int)] 30)):=(by rw[y];exact⟨cR Af,cR vH⟩);have si:ah (Rd wr w1.heap.size s.size 0 0 l (O Q l.length u)):=(by rw[<-xj];exact S);have vX:ah (ag.qN s.data.toList=(ag.vt s.size l).bind fun a r=>ag.vp s.size a r):=by
   have:=ag.Qs (R:=ag.vt) X.out;rw[Lex.df] at this;exact this
  rw[o] at y;clear xj P om jP S Af vH o r0 r1 r2 r3 p0 p1 p2 p3;go_wp2_with fail;rw[<-y];clear y g0 g1 f0 f1;refine(HE.out _ _ wr _ _ si.out).mono ?_;rintro x m ⟨d,⟨a,r,B,af,v',rfl,⟨j0,m0,d0,j1,m1,d1,j2,m2,d2,j3,m3,d3,rfl,hx⟩,h⟩|⟨E,qq,B,rfl,r,v',h⟩⟩
  ·have C:aq _ _ _:=⟨d.os.trans f.os,d.tape.trans f.tape,d.output.trans f.output,fC f.size d.size,fun k hk=>(d.block k (by have:=f.size;omega) (by simp;omega)).trans (f.block k hk)⟩;have p:=(d.block _ (J i.1) (by simp;omega)).trans i.1;have j:_=Z (eV #[.int I 0,.int I (q:Int)] _ _):=(d.block _ (J i.2) (by simp;omega)).trans i.2;have ll:=J j;have lz:w.heap.size<m.heap.size:=(by omega);have ai:=h.lt;have dD:ah (aq _ _ _):=C;have T:ah (m.heap[w.heap.size]? =Z (M ZG 27)/\m.heap[w.heap.size+1]? =Z (M #[.int I 0,.int I (q:Int)] 30)):=⟨p,j⟩;have HT:ah (jj _ (fun b=>wr.heap.size<=b) _ [O j0 m0 d0,O j1 m1 d1,O j2 m2 d2,O j3 m3 d3]):=hx;have jk:ah (ag.qN s.data.toList=ag.vp s.size a r):=(by show _=_;rw[vX.out,B];rfl);have bB:w.heap.size+2<=wr.heap.size:=(by have:=J i.2;omega);obtain⟨c0,_⟩:=h.cells;unfold ZG at p;obtain⟨⟨r0,r1,r2,r3⟩,p0,p1,p2,p3⟩:=kM p;obtain⟨⟨g0,g1⟩,f0,f1⟩:(m.cell? (Y (w.heap.size+1) 0 U)=Z (.int I 0)/\m.cell? (Y (w.heap.size+1) 1 U)=Z (.int I (q:Int)))/\m.frozen? (Y (w.heap.size+1) 0 U)=ak/\m.frozen? (Y (w.heap.size+1) 1 U)=ak:=(by refine⟨⟨?_,?_⟩,?_,?_⟩<;>simp[aN,ea,j]);cases r with
   | nil=>
    obtain⟨ig,c',rfl⟩:=h.none;have pi:ah (ag.qN s.data.toList=.ok a []):=(by show _=_;rw[jk.out];rfl);clear hx h B C p j d;go_wp2;have F:=T.1;unfold ZG at F;obtain⟨k1,k2,k3,k4⟩:=xH (a0:=O j0 m0 d0) (a1:=O j1 m1 d1) (a2:=O j2 m2 d2) (a3:=O j3 m3 d3) (b0:=.int I 0) (b1:=.int I 0) F T.2 dD.out;have ht:=(HT.keeps ⟨by simp[bw],fun b hb _=>k4 b (by omega) (by omega)⟩).mono (S':=fun b=>w.heap.size<=b) fun b hb _=>(by omega);show Leaves _ _ _ _ _ _ _;refine amp _ k1 k2 k3 ?_ ?_ pi.out ht
    ·rfl
    ·rfl
   | cons t r=>
    obtain⟨b',qe,c',rfl,_,_,Hv,_⟩:=h.some;have ae:=h.len;simp only[List.length_cons] at ae;have qH:ah (ag.qN s.data.toList=.no 1 (bI s.size (t::r))):=(by show _=_;rw[jk.out];rfl);have HG:ah (∀ad,Rd (m.alloc ad) w1.heap.size s.size 0 0 (t::r) (O (Z (Y b' qe U)) (r.length+1) c')):=fun ad=>h.keeps ((aF _ _).alloc (aD _) ad) h.lt;unfold maxLen at Hv;clear hx h B C p j d;go_wp2_with fail;refine(tJ _ (HG.out _)).mono ?_;rintro x w3 ⟨rfl,cQ⟩;subst cQ;exact aaU (dD.alloc (by omega) _) (cR T.1) (cR T.2) rfl rfl qH.out
  ·have C:aq _ _ _:=⟨d.os.trans f.os,d.tape.trans f.tape,d.output.trans f.output,fC f.size d.size,fun k hk=>(d.block k (by have:=f.size;omega) (by simp;omega)).trans (f.block k hk)⟩;have p:_=Z (eV ZG _ _):=(d.block _ (J i.1) (by simp;omega)).trans i.1;have j:_=Z (eV #[.int I 0,.int I (q:Int)] _ _):=(d.block _ (J i.2) (by simp;omega)).trans i.2;exact aaU C p j rfl rfl (by rw[vX.out,B];rfl)
 ·have bc:(c==0)=ak:=(by simp[N]);have HN:ah (ag.qN s.data.toList=.no c q):=ag.Qr X.out N;clear N;go_wp2;go_region;all_goals (try go_wp2)
  have F:=L.1;unfold ZG at F;have j:((w1.setCell (Y (w.heap.size+1) 0 U) (.int I c)).setCell (Y (w.heap.size+1) 1 U) (.int I (q:Int))).heap[w.heap.size+1]? =Z (M #[.int I c,.int I (q:Int)] 30):=(by simp[bw,dM,L.2]);obtain⟨k1,k2,k3,_⟩:=xH (a0:=O U 0 0) (a1:=O U 0 0) (a2:=O U 0 0) (a3:=O U 0 0) (b0:=.int I c) (b1:=.int I (q:Int)) (nz (a:=(Y (w.heap.size+1) 1 U)) (u:=.int I (q:Int)) (nz (a:=(Y (w.heap.size+1) 0 U)) (u:=.int I c) F (by simp)) (by simp)) j ((cX.setCell (by simp) _).setCell (by simp) _);show Leaves _ _ _ _ _ _ _;refine amo k1 ?_ k3 ?_ ?_ HN.out
  ·exact k2
  ·rfl
  ·rfl
open ag (aV cV ii dV bL Tok Tr Po aA nx bI aO gg ba)
theorem ahf {d:Nat}{R:aA bL}{x:Ending}(h:PgP w d e ts v R x w'):w.grownBy w' (Z d)/\∃(j0:Oa) (m0 d0:Nat) (j1:Oa) (m1 d1:Nat) (j2:Oa) (m2 d2:Nat) (j3:Oa) (m3 d3:Nat),x=aE (.agg #[O j0 m0 d0,O j1 m1 d1,O j2 m2 d2,O j3 m3 d3])/\
 ((∃a k p,R=.ok a (ts.drop k)/\jj w' (fun b=>w.heap.size<=b) a [O j0 m0 d0,O j1 m1 d1,O j2 m2 d2,O j3 m3 d3]/\Tx w' d e ts v k 0 p 0 0)\/(∃c,∃q:Nat,R=.no c q/\c≠0/\Tx w' d e ts v ts.length c (q:Int) 0 0)):=by
 obtain⟨j0,m0,d0,j1,m1,d1,j2,m2,d2,j3,m3,d3,i,j,P,c,p,g,l,m⟩:=h;refine⟨j,j0,m0,d0,j1,m1,d1,j2,m2,d2,j3,m3,d3,i,?_⟩;rcases l with⟨rfl,f⟩|⟨n,q,rfl,f⟩
 ·exact .inl ⟨P,ts.length,p,by rw[f];simp,m ⟨_,_,f⟩,g⟩
 ·exact .inr ⟨c,q,f,n,g⟩
theorem MJ {q:Int}(a:wz.heap[w.heap.size]? =Z (M #[O j0 m0 d0,O j1 m1 d1,O j2 m2 d2,O j3 m3 d3] 27))(hf:wz.heap[w.heap.size+1]? =Z (M #[.int I c,.int I q] 30))
 (b:tm[4]? =Z (aB (Z (Y w.heap.size 0 U)))) (d:tm[5]? =Z (aB (Z (Y (w.heap.size+1) 0 U)))) (e:qL w L (aE (.tuple #[.agg #[O j0 m0 d0,O j1 m1 d1,O j2 m2 d2,O j3 m3 d3],.agg #[.int I c,.int I q]])) wz.drew):
 bodyPost prog f12 (qL w L) .ret {tmps:=tm,defers:=[]} wz.drew:=by
 obtain⟨⟨f,g,h,i⟩,_⟩:=kM a;have j:=cl hf 0 rfl;have k:=cl hf 1 rfl;exact bodyPost_ret (v:=.tuple #[.agg #[O j0 m0 d0,O j1 m1 d1,O j2 m2 d2,O j3 m3 d3],.agg #[.int I c,.int I q]]) (by simp[results,results12,go_sem,b,d,f,g,h,i,j,k]) rfl e
theorem adv {t:bL}(a:Bl w wz)(c:wz.heap[w.heap.size]? =Z (M #[O j0 m0 d0,O j1 m1 d1,O j2 m2 d2,O j3 m3 d3] 27))(hf:wz.heap[w.heap.size+1]? =Z (M #[.int I 0,.int I 0] 30))
 (d:tm[4]? =Z (aB (Z (Y w.heap.size 0 U)))) (e:tm[5]? =Z (aB (Z (Y (w.heap.size+1) 0 U)))) (f:L=.ok t []) (g:jj wz (fun b=>w.heap.size<=b) t [O j0 m0 d0,O j1 m1 d1,O j2 m2 d2,O j3 m3 d3]):
 bodyPost prog f12 (qL w L) .ret {tmps:=tm,defers:=[]} wz.drew:=
 MJ c hf d e ⟨a.drew,.inl ⟨t,f,_,_,_,_,_,_,_,_,_,_,_,_,rfl,g.keeps ⟨aD _,fun _ _ _=>rfl⟩⟩⟩
theorem afN (s:Bt)(w:au)(hs:s.size<=140737488351232)(hk:FX w)(Br:II):
 aC prog 12 #[.string s,.func (.func 13) #[] #[]] w (qL w (ag.qN s.data.toList)):=by
 have lO:∀(fn:Fn) (first P:Av) (w:au),(Instr.makeFunc fn first P).run prog w=.ok (.func fn first P) w:=fun _ _ _ _=>rfl;have eg:=enters_of func13 (by kernel_rfl) rfl;obtain⟨w0,x⟩:=nm ((w.alloc (M ZG 27)).alloc (M #[.int I 0,.int I 0] 30));have cw:=lU x;have fE:=Ax x;have bU:=ab x;have rR:=ac x;have fV:=hk.later cw;obtain⟨mx,lj⟩:=fV.1;have DI:=aeo s mx w0 hs lj (fV.2 w0 (aF _ _));have HB:=am cw;have HR:=am (aj bU rR);have U9:=am Br;unfold ZG at x;clear cw bU rR hk fV lj Br;go_enter func12,ntmps12;go_wp2_with fail;rw[<-x];clear x;refine DI.mono ?_;rintro e w1 ⟨v,l,c,q,rfl,CV,bF,W⟩;obtain⟨Q,P,rfl⟩:=Jr bF;have bZ:=W.size;have db:=(W.block _ (by omega)).trans HR.1;have fH:=(W.block _ (by omega)).trans HR.2;have cX:ah (Bl w w1):=HB.trans (W.mono (by omega));have HO:=am bF;have S:ah (Lex.jK s.data.toList=(l,c,q)):=CV;have gC:ah (w1.heap[w.heap.size]? =Z (M ZG 27)/\w1.heap[w.heap.size+1]? =Z (M #[.int I 0,.int I 0] 30)):=⟨db,fH⟩;have l1:=J fH;unfold ZG at db;obtain⟨r0,p0,p1,p2,p3⟩:=kM db;obtain⟨⟨g0,g1⟩,f0,f1⟩:=xJ fH;have l2:w.heap.size<w1.heap.size:=(by omega);clear W bF CV db fH DI HB HR;by_cases hc:c=0
 ·subst hc;obtain rfl:=Lex.aeZ S;obtain⟨HU,ar,Td⟩:=Lex.LL S;rw[Lex.df] at Td;obtain⟨m,y⟩:∃m,m=(w1.setCell (Y (w.heap.size+1) 0 U) (.int I 0)).setCell (Y (w.heap.size+1) 1 U) (.int I 0):=⟨_,rfl⟩;have xj:m.heap.size=w1.heap.size:=(by rw[y];simp[bw]);have xB:Bl w m:=(by rw[y];exact(cX.setCell (by simp) _).setCell (by simp) _);have om:m.ownsRow w0.heap.size 81 3 (O Q l.length P) l.length (Lex.cellsOf l):=(by rw[y];exact ownsRow_setCell_below (ownsRow_setCell_below HO (by show w.heap.size+1<_;omega) _) (by show w.heap.size+1<_;omega) _);have ga:=adZ (e:=s.size) Td om S;have Af:m.heap[w.heap.size]? =Z (M ZG 27):=(by rw[y];exact nz (nz gC.1 (by simp)) (by simp));have vH:m.heap[w.heap.size+1]? =Z (M #[.int I 0,.int I 0] 30):=(by rw[y];simp[bw,dM,gC.2]);obtain⟨n,f8⟩:=nm (m.alloc (M #[O Q l.length P,.int I 0,.int I (s.size:Int),.int I 0,.int I 0,.int I 0,.int I 0] 102));rw[<-f8] at ga;have iw:Bl w n:=(by rw[f8];exact xB.alloc (by omega) _);have gF:n.heap.size=w1.heap.size+1:=(by rw[<-xj,f8];exact Array.size_push _);have PG:ah (n.heap[w.heap.size]? =Z (M ZG 27)/\n.heap[w.heap.size+1]? =Z (M #[.int I 0,.int I 0] 30)):=(by rw[f8];exact⟨cR Af,cR vH⟩);have pj:=am iw;obtain⟨i,R3⟩:=nm w1.heap.size;have de:ah (Tx n i s.size l (O Q l.length P) 0 0 0 0 0):=(by rw[R3,<-xj];exact ga);have gM:ag.Good l:=fun t z=>Lex.afc S t z;have gK:qx l:=fun t z=>by
   have X:=(HU t z).2.2.2;rw[Lex.df] at X;have e9:(ba t.2.2).size=t.2.2.length:=(by simp[ba,ByteArray.size]);rw[e9];unfold maxLen;omega
  have sT:Py l:=fun t z=>(aaT (HU t z) (by rw[Lex.df];exact Td)).2.2;have ad:=agd gM gK (apD gM gK (fun bl=>(aof (bl:=bl) gM gK sT U9 12 (aD _)).2) 12 0 rfl) de;have vX:ah (ag.qN s.data.toList=(ag.vt s.size l).bind fun a r=>ag.vp s.size a r):=(by have:=ag.Qs (R:=ag.vt) S;rw[Lex.df] at this;exact this);rw[y] at f8;have av:w.heap.size+2<=i:=(by omega);have ax:n.heap.size=i+1:=(by omega);have ay:i<n.heap.size:=(by omega);clear xj xB om ga Af vH y iw gM gK sT HU r0 p0 p1 p2 p3;go_wp2_with fail;rw[<-f8,<-R3];clear f8 R3 gF g0 g1 f0 f1;refine ad.mono ?_;intro x9 w2 CZ;obtain⟨B,j0,m0,d0,j1,m1,d1,j2,m2,d2,j3,m3,d3,rfl,gH⟩:=ahf CZ;have ec:=B.size;have qp:aq i n w2:=⟨B.os,B.tape,B.output,B.size,fun j hj=>B.block j (by omega) (by simp;omega)⟩;obtain⟨wy,fZ⟩:=nm (w2.alloc (M #[O j0 m0 d0,O j1 m1 d1,O j2 m2 d2,O j3 m3 d3] 27));have ib:=eS fZ;have zw:=am (pj.trans ((qp.mono (by omega)).trans (ib.mono (by omega))));have T:=am (aj ((ib.block _ (by omega)).trans ((qp.block _ (by omega)).trans PG.1)) ((ib.block _ (by omega)).trans ((qp.block _ (by omega)).trans PG.2)));have LV:=am (aa fZ);have Uy:=am fZ;have kq:i+1<=w2.heap.size:=(by omega);have Gm:=am ib;clear CZ ad qp B fZ ib;rcases gH with⟨a,k,p,h1,V,h3⟩|⟨c,q,h1,V,h3⟩
  ·have o:=am (h3.later Gm);have IQ:ah (jj _ (fun b=>i+1<=b) _ [O j0 m0 d0,O j1 m1 d1,O j2 m2 d2,O j3 m3 d3]):=(jj.keeps V (aP.bm Gm)).mono fun b hb _=>(by omega);have si:ah (ag.qN s.data.toList=ag.vp s.size a (l.drop k)):=(by show _=_;rw[vX.out];have X:ag.vt s.size l=.ok a (l.drop k):=h1;rw[X];rfl);clear h1 V h3;have C:=o.cells;have Yt:=o.lt;by_cases dc:k<l.length
   ·have dk:decide ((k:Int)<(l.length:Int))=ap:=(by simp;omega);go_upto_region 6 with fail
    rw[<-Uy.out]
    go_cut [44] (fun Jv wc=>Jv=.bool ap/\ah (Bl wy wc))
    case first=>
     go_quiet ((fail))
     go_wp2_with fail;go_meet;exact⟨rfl,⟨rfl,rfl,rfl,aD _,fun _ _=>rfl⟩⟩
    case rest=>
     obtain⟨rfl,d⟩:=hcut;have eG:=wT 1 (o.later d);clear C;go_wp2_with fail;refine eG.mono ?_;rintro x4 E ⟨rfl,jV⟩;obtain⟨dg,NZ⟩:=jV;rw[if_pos rfl,if_pos rfl] at NZ;have C:=NZ.cells;have aG:=NZ.lt;have ae:=d.size;have qr:aq i wy E:=(by refine Below.trans (d.mono (by omega)) ?_;exact⟨dg.os,dg.tape,dg.output,dg.size,fun j hj=>dg.block j (by omega) (by simp;omega)⟩);have tA:=am (zw.trans (qr.mono (by omega)));have f:_=Z (eV ZG _ _):=(qr.block _ (by omega)).trans T.1;have g:_=Z (eV #[.int I 0,.int I 0] _ _):=(qr.block _ (by omega)).trans T.2;have F:ah (ag.qN s.data.toList=.no 1 (bI s.size (l.drop k))):=(by show _=_;rw[si.out];unfold ag.vp;rw[if_neg];simp;omega);clear eG dg NZ qr;have n1:=J f;have n2:=J g;have u:ah (E.heap[w.heap.size]? =Z (M ZG 27)/\E.heap[w.heap.size+1]? =Z (M #[.int I 0,.int I 0] 30)):=⟨f,g⟩;unfold ZG at f;obtain⟨r0,e0,e1,e2,e3⟩:=kM f;obtain⟨⟨g0,g1⟩,f0,f1⟩:(E.cell? (Y (w.heap.size+1) 0 U)=Z (.int I 0)/\E.cell? (Y (w.heap.size+1) 1 U)=Z (.int I 0))/\E.frozen? (Y (w.heap.size+1) 0 U)=ak/\E.frozen? (Y (w.heap.size+1) 1 U)=ak:=(by refine⟨⟨?_,?_⟩,?_,?_⟩<;>simp[aN,ea,g]);clear f g;go_wp2;go_region;all_goals (try go_wp2)
     have h:=u.1;unfold ZG at h;obtain⟨G,K,L,k4⟩:=xH (a0:=O U 0 0) (a1:=O U 0 0) (a2:=O U 0 0) (a3:=O U 0 0) (b0:=.int I 1) (b1:=.int I (bI s.size (l.drop k):Int)) h u.2 tA;refine MJ K L ?_ ?_ ⟨G.drew,.inr ⟨1,_,F.out,rfl⟩⟩
     ·rfl
     ·rfl
   ·have dk:decide ((k:Int)<(l.length:Int))=ak:=(by simp;omega);go_upto_region 6 with fail
    rw[<-Uy.out]
    go_cut [44] (fun Jv wc=>Jv=.bool ak/\ah (Bl wy wc))
    case first=>
     go_quiet ((fail))
     go_wp2_with fail;go_meet;exact⟨rfl,⟨rfl,rfl,rfl,aD _,fun _ _=>rfl⟩⟩
    case rest=>
     obtain⟨rfl,d⟩:=hcut;have tA:ah (aq _ _ _):=zw.trans (d.mono zw.size);have ae:=d.size;have ly:=J LV;have f:_=Z (eV ZG _ _):=(d.block _ (by omega)).trans T.1;have g:_=Z (eV #[.int I 0,.int I 0] _ _):=(d.block _ (by omega)).trans T.2;have Bf:=(d.block _ ly).trans LV;have aH:=J Bf;obtain⟨⟨y0,y1,y2,y3⟩,_⟩:=kM Bf;have F:ah (ag.qN s.data.toList=.ok a []):=(by show _=_;rw[si.out];unfold ag.vp;rw[if_pos];simp;omega);have LY:ah (jj _ (fun b=>i+1<=b) _ [O j0 m0 d0,O j1 m1 d1,O j2 m2 d2,O j3 m3 d3]):=IQ.keeps (aP.bm d);have N:=o.later d;clear C;have C:=N.cells;have af:=N.lt;clear N Bf;have n1:=J f;have n2:=J g;have u:ah (wc.heap[w.heap.size]? =Z (M ZG 27)/\wc.heap[w.heap.size+1]? =Z (M #[.int I 0,.int I 0] 30)):=⟨f,g⟩;unfold ZG at f;obtain⟨r0,e0,e1,e2,e3⟩:=kM f;obtain⟨⟨g0,g1⟩,f0,f1⟩:(wc.cell? (Y (w.heap.size+1) 0 U)=Z (.int I 0)/\wc.cell? (Y (w.heap.size+1) 1 U)=Z (.int I 0))/\wc.frozen? (Y (w.heap.size+1) 0 U)=ak/\wc.frozen? (Y (w.heap.size+1) 1 U)=ak:=(by refine⟨⟨?_,?_⟩,?_,?_⟩<;>simp[aN,ea,g]);clear f g;go_wp2;go_region;all_goals (try go_wp2)
     have h:=u.1;unfold ZG at h;obtain⟨G,K,L,k4⟩:=xH (a0:=O j0 m0 d0) (a1:=O j1 m1 d1) (a2:=O j2 m2 d2) (a3:=O j3 m3 d3) (b0:=.int I 0) (b1:=.int I 0) h u.2 tA;have z:=(LY.keeps ⟨by simp[bw],fun b hb _=>k4 b (by omega) (by omega)⟩).mono (S':=fun b=>w.heap.size<=b) fun b hb _=>(by omega);refine adv G K L ?_ ?_ F z
     ·rfl
     ·rfl
  ·have o:ah (Tx _ _ _ _ _ _ _ _ _ _):=h3.later Gm;have F:ah (ag.qN s.data.toList=.no c q):=(by show _=_;rw[vX.out];have X:ag.vt s.size l=.no c q:=h1;rw[X];rfl);have bq:(c==0)=ak:=(by simpa using V);have bc:(c !=0)=ap:=(by simpa using V);clear h1 V h3;have C:=o.cells;have Yt:=o.lt;go_upto_region 6 with fail
   rw[<-Uy.out]
   go_cut [44] (fun Jv wc=>Jv=.bool ak/\ah (Bl wy wc))
   case first=>
    go_quiet ((fail))
    go_wp2_with fail;go_meet;exact⟨rfl,⟨rfl,rfl,rfl,aD _,fun _ _=>rfl⟩⟩
   case rest=>
    obtain⟨rfl,d⟩:=hcut;have tA:ah (Bl w wc):=zw.trans (d.mono zw.size);have ae:=d.size;have ly:=J LV;have f:wc.heap[w.heap.size]? =Z (M ZG 27):=(d.block _ (by omega)).trans T.1;have g:wc.heap[w.heap.size+1]? =Z (M #[.int I 0,.int I 0] 30):=(d.block _ (by omega)).trans T.2;have N:=o.later d;clear C;have C:=N.cells;have af:=N.lt;clear N;have n1:=J f;have n2:=J g;have u:ah (wc.heap[w.heap.size]? =Z (M ZG 27)/\wc.heap[w.heap.size+1]? =Z (M #[.int I 0,.int I 0] 30)):=⟨f,g⟩;unfold ZG at f;obtain⟨r0,e0,e1,e2,e3⟩:=kM f;obtain⟨⟨g0,g1⟩,f0,f1⟩:(wc.cell? (Y (w.heap.size+1) 0 U)=Z (.int I 0)/\wc.cell? (Y (w.heap.size+1) 1 U)=Z (.int I 0))/\wc.frozen? (Y (w.heap.size+1) 0 U)=ak/\wc.frozen? (Y (w.heap.size+1) 1 U)=ak:=(by refine⟨⟨?_,?_⟩,?_,?_⟩<;>simp[aN,ea,g]);clear f g;go_wp2;go_region;all_goals (try go_wp2)
    have h:=u.1;unfold ZG at h;obtain⟨G,K,L,k4⟩:=xH (a0:=O U 0 0) (a1:=O U 0 0) (a2:=O U 0 0) (a3:=O U 0 0) (b0:=.int I c) (b1:=.int I (q:Int)) h u.2 tA;refine MJ K L ?_ ?_ ⟨G.drew,.inr ⟨c,q,F.out,rfl⟩⟩
    ·rfl
    ·rfl
 ·have bc:(c !=0)=ap:=(by simpa using hc);have KD:((w1.setCell (Y (w.heap.size+1) 0 U) (.int I c)).setCell (Y (w.heap.size+1) 1 U) (.int I (q:Int))).heap[w.heap.size+1]? =Z (M #[.int I c,.int I (q:Int)] 30):=(by simp[bw,dM,gC.2]);have rv:ah (((w1.setCell (Y (w.heap.size+1) 0 U) (.int I c)).setCell (Y (w.heap.size+1) 1 U) (.int I (q:Int))).heap[w.heap.size+1]? =Z (M #[.int I c,.int I (q:Int)] 30)):=KD;have ai:ah (((w1.setCell (Y (w.heap.size+1) 0 U) (.int I c)).setCell (Y (w.heap.size+1) 1 U) (.int I (q:Int))).heap[w.heap.size]? =Z (M ZG 27)):=nz (nz gC.1 (by simp)) (by simp);have xX:ah (Bl w ((w1.setCell (Y (w.heap.size+1) 0 U) (.int I c)).setCell (Y (w.heap.size+1) 1 U) (.int I (q:Int)))):=(cX.setCell (by simp) _).setCell (by simp) _;have F:ah (ag.qN s.data.toList=.no c q):=ag.Qr S hc;clear KD;go_wp2;go_region;all_goals (try go_wp2)
  have h:=ai.out;unfold ZG at h;obtain⟨G,K,L,k4⟩:=xH (a0:=O U 0 0) (a1:=O U 0 0) (a2:=O U 0 0) (a3:=O U 0 0) (b0:=.int I c) (b1:=.int I (q:Int)) h rv xX;refine MJ K L ?_ ?_ ⟨G.drew,.inr ⟨c,q,F.out,rfl⟩⟩
  ·rfl
  ·rfl
theorem oX {W:au}(c:Bl W w1):(∀b a,b<W.heap.size->w1.cell? (Y b a U)=W.cell? (Y b a U))/\(∀b a,b<W.heap.size->w1.frozen? (Y b a U)=W.frozen? (Y b a U)):=
 ⟨fun b a h=>c.cell (p:=(Y b a U)) h,fun b a h=>c.frozen (p:=(Y b a U)) h⟩
structure iY (w:au)(b off:Nat)(cs:Lv):Prop where
 lt:b<w.heap.size
 cell:∀j u,cs[j]? =Z u->w.cell? (Y b (off+j) U)=Z u
theorem iY.keeps (h:iY w b off cs)(c:w.heap.size<=w'.heap.size)(d:w'.heap[b]? =w.heap[b]?):iY w' b off cs:=
 ⟨gD h.lt c,fun j e f=>(World.cell?_of_block (a:=(Y b (off+j) U)) d).trans (h.cell j e f)⟩
theorem iY.all {a c d:aw}(h:iY w b off [x0,x1,x2,x3,a,c,d]):w.cell? (Y b off U)=Z x0/\w.cell? (Y b (off+1) U)=Z x1/\w.cell? (Y b (off+2) U)=Z x2/\w.cell? (Y b (off+3) U)=Z x3/\w.cell? (Y b (off+4) U)=Z a/\w.cell? (Y b (off+5) U)=Z c/\w.cell? (Y b (off+6) U)=Z d:=
 ⟨h.cell 0 _ rfl,h.cell 1 _ rfl,h.cell 2 _ rfl,h.cell 3 _ rfl,h.cell 4 _ rfl,h.cell 5 _ rfl,h.cell 6 _ rfl⟩
theorem acb (n:Nat):(((n:Nat):Int)==0)=(n==0):=by rw[Bool.eq_iff_iff];simp
theorem TR (n:Nat):(((n:Nat):Int)==1)=(n==1):=by rw[Bool.eq_iff_iff];simp;omega
theorem aca (n:Nat):(((n:Nat):Int)==2)=(n==2):=by rw[Bool.eq_iff_iff];simp;omega
theorem Ts (s:Bt):s.toList.isEmpty=(s.data.toList==[]):=by
 rw[Lex.jU];cases s.data.toList<;>rfl
theorem aqi {yH:Nat}(T:iY w b off cs)(ht:aS w S t cs)(er:gU w yH):
 aC prog 162 #[aB (Z (Y b off U))] w fun x w'=>x=aE (.bool (ag.mI t))/\Bl w w':=by
 cases ht with
 | @mk k p n m s l a lv av ad hs V C aG hk=>
 have g:=Y3 V;obtain⟨lo,lb,G8,lc,rfl,ae,Ok,_⟩:=V.sD;obtain⟨Q,ab,bC,ac,rfl,W⟩:=C;have uz:=W.cap;have vK:=W.mx;obtain⟨c0,c1,c2,c3,c4,c5,c6⟩:=T.all;have aK:=T.lt;have i:=X8 m n w;have h:=M3 s w (by unfold maxLen at hs;omega);have f:=JO er s;obtain⟨ln,X⟩:=nm l.length;obtain⟨an,rW⟩:=nm ad.length;obtain⟨r,C⟩:=nm (ag.mI (.mk k p n m s l a))
 have j:ah (r=(if k≠1∧(n≠0∨m≠0) then ak else if k≠5∧0<ln then ak
  else if k=1 then ag.sL m n && (s.data.toList==[]) && an==0
  else if k=2 then ag.dG s && an==0
  else if k=3 then(an==2 && decide (0<ag.dW s.data.toList)) ||(an==1 && (s.data.toList==[45] || s.data.toList==[33]))
  else if k=4 then ag.dG s && decide (an<=4)
  else if k=5 then ag.gp l && (s.data.toList==[]) && an==1
  else ak)):=by show _=_;rw[C,rW,aG,X];rfl
 rw[<-C];rw[<-X] at c5 ae g;rw[<-rW] at c6 uz;unfold maxLen at Ok vK hs;have Ci:=am (Ts s);have gV:ah ((s.toList==[45])=(s.data.toList==[45])):=(by show _=_;rw[Lex.jU]);have rx:ah ((s.toList==[33])=(s.data.toList==[33])):=(by show _=_;rw[Lex.jU]);clear C T W X rW aG hk V er;rcases Nat.eq_zero_or_pos ln with je | je
 ·subst je;by_cases d:k=1
  ·subst d;have c:ah (r=(ag.sL m n && (s.data.toList==[]) && an==0)):=(by show _=_;rw[j.out];simp);clear h f g;obtain⟨t1,e⟩:=nm (ag.sL m n);have Vj:∀L:au,aC prog 200 #[.int I m,.int I n] L fun x w'=>x=aE (.bool t1)/\w'=L:=fun L=>(by rw[e];exact X8 m n L);clear i;rw[<-e] at c;rw[<-Ci.out] at c;obtain⟨t2,u⟩:∃t,s.toList.isEmpty=t:=⟨_,rfl⟩;rw[u] at c;clear e;cases t1<;>cases t2<;>
   ·go_enter func162,ntmps162;go_wp2
    go_quiet ((go_at_call 200;exact Calls.quiet_of_same (Vj _)))
    go_wp2;go_ret;exact⟨by rw[c.out];first | rfl |(rw[Bool.true_and,Bool.true_and,<-acb];rfl),⟨rfl,rfl,rfl,aD _,fun _ _=>rfl⟩⟩
  ·have E:(k==1)=ak:=(by simp[d]);have F:(k !=1)=ap:=(by simp[d]);by_cases n0:n=0
   ·subst n0;by_cases y0:m=0
    ·subst y0;by_cases v:k=2
     ·subst v;have c:ah (r=(ag.dG s && an==0)):=(by show _=_;rw[j.out];simp);clear i f g d;unfold ag.dG at c;obtain⟨t1,e⟩:=nm (Lex.kR s.data.toList);rw[<-e] at h c;clear e;cases t1<;>
      ·go_enter func162,ntmps162;go_wp2_with fail;refine h.mono ?_;rintro x w1 ⟨rfl,y⟩;have z:=y.symm;subst z;go_wp2;go_ret;exact⟨by rw[c.out];simp[acb],aF _ _⟩
     ·by_cases B:k=3
      ·subst B;have c:ah (r=((an==2 && decide (0<ag.dW s.data.toList)) ||(an==1 && (s.data.toList==[45] || s.data.toList==[33])))):=(by show _=_;rw[j.out];simp);clear i h g d v E F;obtain⟨mb,e⟩:=nm (ag.dW s.data.toList);rw[<-e] at f c;clear e;by_cases G:an=2
       ·subst G;rcases Nat.eq_zero_or_pos mb with fU | fU
        ·subst fU;go_enter func162,ntmps162;go_wp2_with fail;refine f.mono ?_;rintro x w1 ⟨rfl,y⟩;have z:=y.symm;subst z;go_wp2;go_ret;exact⟨by rw[c.out];rfl,aF _ _⟩
        ·have d0:decide ((0:Int)<(mb:Int))=ap:=(by simp;omega);go_enter func162,ntmps162;go_wp2_with fail;refine f.mono ?_;rintro x w1 ⟨rfl,y⟩;have z:=y.symm;subst z;go_wp2;go_ret;exact⟨by rw[c.out];simp[fU],aF _ _⟩
       ·have q2:((an:Int)==2)=ak:=(by rw[aca];simp[G]);by_cases N:an=1
        ·subst N;have P:ah (r=((s.toList==[45]) ||(s.toList==[33]))):=(by show _=_;rw[c.out,gV.out,rx.out];rfl);obtain⟨t1,e⟩:∃t,(s.toList==[45])=t:=⟨_,rfl⟩;obtain⟨t2,u⟩:∃t,(s.toList==[33])=t:=⟨_,rfl⟩;rw[e,u] at P;clear c f G q2;cases t1<;>cases t2<;>
         ·go_enter func162,ntmps162;go_wp2;go_ret;exact⟨by rw[P.out];rfl,aF _ _⟩
        ·have q1:((an:Int)==1)=ak:=(by rw[TR];simp[N]);have P:ah (r=ak):=(by show _=_;rw[c.out];simp[N,G]);clear c f G N;go_enter func162,ntmps162;go_wp2;go_ret;exact⟨by rw[P.out];rfl,aF _ _⟩
      ·by_cases K:k=4
       ·subst K;have c:ah (r=(ag.dG s && decide (an<=4))):=(by show _=_;rw[j.out];simp);clear i f g d v B E F;unfold ag.dG at c;obtain⟨t1,e⟩:=nm (Lex.kR s.data.toList);rw[<-e] at h c;clear e;have HD:ah (decide ((an:Int)<=4)=decide (an<=4)):=(by show _=_;simp;omega);cases t1<;>
        ·go_enter func162,ntmps162;go_wp2_with fail;refine h.mono ?_;rintro x w1 ⟨rfl,y⟩;have z:=y.symm;subst z;go_wp2;go_ret;exact⟨by rw[c.out,<-HD.out];simp,aF _ _⟩
       ·by_cases o:k=5
        ·subst o;have c:ah (r=(ag.gp l && (s.data.toList==[]) && an==1)):=(by show _=_;rw[j.out];simp);rw[<-Ci.out] at c;obtain⟨t1,e⟩:=nm (ag.gp l);obtain⟨t2,u⟩:∃t,s.toList.isEmpty=t:=⟨_,rfl⟩;rw[<-e] at g c;rw[u] at c;clear e i f h d v B K E F;cases t1<;>cases t2<;>
         ·go_enter func162,ntmps162;go_wp2_with fail;refine g.mono ?_;rintro x w1 ⟨rfl,q⟩;obtain⟨f1,f2⟩:=oX q;have bZ:=q.size;have C4:b<w1.heap.size:=(by omega);have cX:=am q;clear q;go_wp2;go_ret;exact⟨by rw[c.out];first | rfl |(rw[Bool.true_and,Bool.true_and,<-TR];rfl),cX.out⟩
        ·have c:ah (r=ak):=(by show _=_;rw[j.out];simp[d,v,B,K,o]);have R:(k==2)=ak:=(by simp[v]);have b3:(k==3)=ak:=(by simp[B]);have b4:(k==4)=ak:=(by simp[K]);have b5:(k==5)=ak:=(by simp[o]);have g5:(k !=5)=ap:=(by simp[o]);clear i h f g d v B K o;go_enter func162,ntmps162;go_wp2;go_ret;exact⟨by rw[c.out];rfl,aF _ _⟩
    ·have R:(m !=0)=ap:=(by simp[y0]);have c:ah (r=ak):=(by show _=_;rw[j.out];simp[d,y0]);clear i h f g d y0;go_enter func162,ntmps162;go_wp2;go_ret;exact⟨by rw[c.out];rfl,aF _ _⟩
   ·have R:(n !=0)=ap:=(by simp[n0]);have c:ah (r=ak):=(by show _=_;rw[j.out];simp[d,n0]);clear i h f g d n0;go_enter func162,ntmps162;go_wp2;go_ret;exact⟨by rw[c.out];rfl,aF _ _⟩
 ·by_cases d:k=1
  ·subst d;have c:ah (r=ak):=(by show _=_;rw[j.out];simp[je]);clear i h f g;go_enter func162,ntmps162;go_wp2;go_ret;exact⟨by rw[c.out];rfl,aF _ _⟩
  ·have E:(k==1)=ak:=(by simp[d]);have F:(k !=1)=ap:=(by simp[d]);by_cases n0:n=0
   ·subst n0;by_cases y0:m=0
    ·subst y0;by_cases o:k=5
     ·subst o;have c:ah (r=(ag.gp l && (s.data.toList==[]) && an==1)):=(by show _=_;rw[j.out];simp);rw[<-Ci.out] at c;obtain⟨t1,e⟩:=nm (ag.gp l);obtain⟨t2,u⟩:∃t,s.toList.isEmpty=t:=⟨_,rfl⟩;rw[<-e] at g c;rw[u] at c;clear e i f h d E F;cases t1<;>cases t2<;>
      ·go_enter func162,ntmps162;go_wp2_with fail;refine g.mono ?_;rintro x w1 ⟨rfl,q⟩;obtain⟨f1,f2⟩:=oX q;have bZ:=q.size;have C4:b<w1.heap.size:=(by omega);have cX:=am q;clear q;go_wp2;go_ret;exact⟨by rw[c.out];first | rfl |(rw[Bool.true_and,Bool.true_and,<-TR];rfl),cX.out⟩
     ·have c:ah (r=ak):=(by show _=_;rw[j.out];simp[d,o,je]);have g5:(k !=5)=ap:=(by simp[o]);clear i h f g d o;go_enter func162,ntmps162;go_wp2;go_ret;exact⟨by rw[c.out];rfl,aF _ _⟩
    ·have R:(m !=0)=ap:=(by simp[y0]);have c:ah (r=ak):=(by show _=_;rw[j.out];simp[d,y0]);clear i h f g d y0;go_enter func162,ntmps162;go_wp2;go_ret;exact⟨by rw[c.out];rfl,aF _ _⟩
   ·have R:(n !=0)=ap:=(by simp[n0]);have c:ah (r=ak):=(by show _=_;rw[j.out];simp[d,n0]);clear i h f g d n0;go_enter func162,ntmps162;go_wp2;go_ret;exact⟨by rw[c.out];rfl,aF _ _⟩
structure PC (w:au)(b off:Nat)(ks:List Int):Prop where
 cell:∀i (h:i<ks.length),w.cell? (Y b (off+i) U)=Z (.int I ks[i])
 lt:b<w.heap.size
theorem akU {n c:Nat}{v:Int}(hn:n=ks.length)(hm:n<=100)(h:PC w b off ks):
 aC prog 156 #[O (Z (Y b off U)) n c,.int I v] w fun e w'=>(∃p:Int,e=aE (.int I p)/\decide (0<=p)=decide (v∈ks))/\w'=w:=by
 have l:=am hn;have r:=am h;have B:=h.lt;clear hn h;go_enter func156,ntmps156;go_wp2;go_loopw [8] (fun i wr=>∃k:Nat,k<=n/\i=.int I k/\wr=w/\ah (∀j (h:j<ks.length),j<k->ks[j]≠v)) (fun i _=>n - (intOf i).toNat);case atStart=>exact⟨0,eJ _,rfl,rfl,fun j _ h=>absurd h (by omega)⟩
 case round=>
  obtain⟨k,C,rfl,rfl,m⟩:=hrel;by_cases s:k<n
  ·have o:k<ks.length:=(by have:=l.out;omega);have f1:=r.cell k o;obtain⟨x,hx⟩:=nm (ks[k]);rw[<-hx] at f1;have q:=am hx;clear hx;by_cases a:v=x
   ·have t:(v==x)=ap:=(by simpa using a);have d:=am a;clear a;go_wp2;go_ret;refine⟨⟨_,rfl,?_⟩,rfl⟩;have f:v∈ks:=(by rw[d.out,q.out];exact List.getElem_mem o);simp[f]
   ·have t:(v==x)=ak:=(by simpa using a);have d:=am a;clear a;go_wp2;go_roundw;case rel=>
     refine⟨k+1,by omega,by go_num,by first | rfl | trivial,fun j g E=> ?_⟩;by_cases u:j=k
     ·subst u;rw[<-q.out];exact fun h=>d.out h.symm
     ·exact m.out j g (by omega)
    case measure=>simp[intOf];omega
  ·have F:=s;go_wp2;go_ret;refine⟨⟨_,rfl,?_⟩,rfl⟩;have f:¬v∈ks:=fun y=>by
    obtain⟨j,g,z⟩:=List.getElem_of_mem y;exact m.out j g (by have:=l.out;omega) z
   simp[f]
theorem aoq {n c:Nat}{v:Int}(hn:n=ks.length)(hm:n<=100)(h:PC w b off ks):
 aC prog 111 #[O (Z (Y b off U)) n c,.int I v] w fun e w'=>e=aE (.bool (decide (v∈ks)))/\w'=w:=by
 have a:=akU (c:=c) (v:=v) hn hm h;clear hn hm h;go_enter func111,ntmps111;go_wp2_with fail;refine a.mono ?_;rintro x w1 ⟨⟨p,rfl,d⟩,rfl⟩;have f:=am d;clear a;go_wp2;go_ret;exact⟨by first | rfl |(rw[<-f.out];rfl),rfl⟩
theorem amh {n c a:Nat}(hn:n=ks.length)(hm:n<=100)(h:PC w b off ks)(f:w.cell? (Y a 0 U)=Z (.int I k)):
 aC prog 110 #[O (Z (Y b off U)) n c,aB (Z (Y a 0 U))] w fun e w'=>e=aE (.bool (decide (k∈ks)))/\w'=w:=by
 have d:=aoq (c:=c) (v:=k) hn hm h;have g:=World.block_lt_of_cell? w _ f;clear hn hm h;go_enter func110,ntmps110;go_wp2_with fail;refine d.mono ?_;rintro x w1 ⟨rfl,rfl⟩;clear d;go_wp2;go_ret;exact⟨rfl,rfl⟩
def tT (l:List (Lv)):Lv:=l.flatten
structure FZ (w:au)(ao:Oa)(b off:Nat)(l:List (Lv)):Prop where
 dR:0<l.length->ao=Z (Y b off U)
 flat:∀j u,(tT l)[j]? =Z u->w.cell? (((Y b off U):Addr).add j)=Z u
 len:(tT l).length=l.length*15
 one:∀u∈tT l,u.oneCell'=ap
 lt:0<l.length->b<w.heap.size
theorem FZ.later {l:List (Lv)}(h:FZ w Q b off l)(c:Bl w w'):FZ w' Q b off l:=by
 refine⟨h.dR,fun j f d=> ?_,h.len,h.one,fun a=>gD (h.lt a) c.size⟩;have a:0<l.length:=by
  have:=(List.getElem?_eq_some_iff.1 d).1;rw[h.len] at this;omega
 have g:((Y b off U):Addr).add j=(Y b (off+j) U):=(by simp[Addr.add]);have e:=h.flat j f d;rw[g] at e⊢;exact(c.cell (p:=(Y b (off+j) U)) (h.lt a)).trans e
theorem amR {l:List (Lv)}(h:∀x∈l,x.length=15):(tT l).length=l.length*15:=by
 unfold tT;induction l with
 | nil=>rfl
 | cons a r b=>
  have c:=h a (by simp);have d:=b fun x hx=>h x (by simp[hx]);simp[c,d];omega
theorem amS {l:List (Lv)}(h:∀x∈l,x.length=15):∀j u,(tT l)[j]? =Z u->∃(e:j / 15<l.length),l[j / 15][j % 15]? =Z u:=by
 unfold tT;induction l with
 | nil=>intro j u b;simp at b
 | cons a r f=>
  intro j u b;have g:=h a (by simp);rw[List.flatten_cons] at b;by_cases k:j<15
  ·rw[List.getElem?_append_left (by omega)] at b;have c:j / 15=0:=(by omega);have d:j % 15=j:=(by omega);refine⟨by simp;omega,?_⟩;simp only[c,d,List.getElem_cons_zero];exact b
  ·rw[List.getElem?_append_right (by omega),g] at b;obtain⟨e,i⟩:=f (fun x hx=>h x (by simp[hx])) (j - 15) u b;have c:j / 15=(j - 15) / 15+1:=(by omega);have d:j % 15=(j - 15) % 15:=(by omega);refine⟨by simp;omega,?_⟩;simp only[c,d,List.getElem_cons_succ];exact i
theorem amj (w:au):
 aC prog 159 #[O U 0 0,.int I 0] w fun e w'=>e=aE (O U 0 0)/\w'=w:=by
 go_enter func159,ntmps159;go_wp2;go_ret;exact⟨rfl,rfl⟩
theorem amk (a:Nat)(w:au)(o:0<a)(g:a*224<=281474976710656):
 aC prog 159 #[O U 0 0,.int I a] w fun e w'=>∃b,e=aE (O (Z (Y w.heap.size 0 U)) 0 b)/\a<=b/\w'.ownsRow w.heap.size 109 15 (O (Z (Y w.heap.size 0 U)) 0 b) 0 []/\Bl w w':=by
 obtain⟨p,q,r,v,k⟩:=info_parts Tryz.NH;have l:Builtin.nextslicecap (0+a) 0=a:=(by unfold Builtin.nextslicecap;rw[if_pos (by omega)];omega);have c:∀i,(Builtin.append_ #[63,3] i #[O U 0 0,.int I (a:Int)]).run prog w=
  .ok (O (Z (Y w.heap.size 0 U)) (0+a) (grownCap w (0+a) 0 109)) (w.drew.alloc (M (([]:Lv).toArray++Builtin.zeroCells #[.int I 0,.int I 0,.string ⟨#[]⟩,.string ⟨#[]⟩,.bool ak,O U 0 0,.int I 0,.int I 0,.int I 0,.int I 0,.string ⟨#[]⟩,O U 0 0,O U 0 0,O U 0 0,O U 0 0] a++Builtin.zeroCells #[.int I 0,.int I 0,.string ⟨#[]⟩,.string ⟨#[]⟩,.bool ak,O U 0 0,.int I 0,.int I 0,.int I 0,.int I 0,.string ⟨#[]⟩,O U 0 0,O U 0 0,O U 0 0,O U 0 0] (grownCap w (0+a) 0 109 - (0+a))) 109)):=fun i=>
  Lib.run_append_grow_zeros w 63 3 i 109 p _ I I underlying63 underlying3 q r U 0 0 [] (by simp[Builtin.firstCells]) a o (by omega) (by omega) (by omega) (by rw[k];exact g) (by rw[l,k];exact g)
 have d:0+a<=grownCap w (0+a) 0 109:=grownCap_ge w _ _ _;have f:=grownCap_le_maxLen w (0+a) 0 109 (by unfold maxLen;omega);rw[Nat.zero_add] at c d f;obtain⟨b,m⟩:=nm (grownCap w a 0 109);rw[<-m] at c d f;obtain⟨cs,j⟩:=nm (([]:Lv).toArray++Builtin.zeroCells #[.int I 0,.int I 0,.string ⟨#[]⟩,.string ⟨#[]⟩,.bool ak,O U 0 0,.int I 0,.int I 0,.int I 0,.int I 0,.string ⟨#[]⟩,O U 0 0,O U 0 0,O U 0 0,O U 0 0] a++Builtin.zeroCells #[.int I 0,.int I 0,.string ⟨#[]⟩,.string ⟨#[]⟩,.bool ak,O U 0 0,.int I 0,.int I 0,.int I 0,.int I 0,.string ⟨#[]⟩,O U 0 0,O U 0 0,O U 0 0,O U 0 0] (b - a));rw[<-j] at c;have n:cs.size=b*15:=(by rw[j];simp[Builtin.zeroCells];omega);have s:ah ((w.drew.alloc (M cs 109)).ownsRow w.heap.size 109 15 (O (Z (Y w.heap.size 0 U)) 0 b) 0 []):=
  ⟨rfl,.inr ⟨w.heap.size,b,cs,rfl,aD _,cu _ _ _ rfl,eJ _,f,n,by simp⟩⟩
 have t:ah (Bl w (w.drew.alloc (M cs 109))):=(by have h:Bl w w.drew:=⟨rfl,rfl,rfl,aD _,fun _ _=>rfl⟩;exact h.alloc (aD _) _);have x:(0:Int)<(a:Int):=(by omega);have u:=am d;have y:a<=8796093022208:=(by omega);unfold maxLen at f;clear l m j n g d;go_enter func159,ntmps159;go_wp2_with (at_builtin;refine Lib.wpList_append_run _ rfl _ _ _ _ rfl _ _ rfl rfl _ _ (c _) ?_);all_goals (go_ret;exact⟨b,rfl,u.out,s.out,t.out⟩)
theorem aqd (a b:Oa)(n c d:Nat)(e:TypeId)(w:au)(hn:n<=c):(Builtin.append_ #[63,63] e #[O a n c,O b 0 d]).run prog w=.ok (O a n c) w:=by
 cases a<;>cases b<;>simp[Builtin.append_,run_underlying underlying63,go_sem,hn,Builtin.firstCells,Builtin.lenOf,storeCells]
def Au (ps qs:List (Lv)):Nat->List (Lv)
 | 0=>[]
 | 1=>ps
 | _=>ps++qs
def yj (m r:Nat):Nat->Nat
 | 0=>0
 | 1=>m
 | _=>m+r
theorem aew (m r j:Nat):yj m r j<=m+r:=by
 match j with
 | 0=>simp[yj]
 | 1=>simp[yj]
 | _+2=>simp[yj]
def Qh (w wr:au)(v:aw)(l:List (Lv))(N:Nat):Prop:=
 Bl w wr/\((N=0/\v=O U 0 0)\/∃g G,v=O (Z (Y g 0 U)) l.length G/\N<=G/\w.heap.size<=g/\wr.ownsRow w.heap.size 109 15 v l.length (tT l))
theorem FO (y:Nat)(G F:Oa)(b off b' qe m r d S:Nat)(ps n:List (Lv))(w:au)(hm:m=ps.length)(hr:r=n.length)(hb:(m+r)*224<=281474976710656)
 (s0:w.cell? (Y y 0 U)=Z (O G m d)) (s1:w.cell? (Y y 1 U)=Z (O F r S)) (ls:y<w.heap.size) (hp:FZ w G b off ps) (hq:FZ w F b' qe n):
 aC prog 113 #[O (Z (Y y 0 U)) 2 2] w fun e w'=>∃v,e=aE v/\w'.ownsRow w.heap.size 109 15 v (ps++n).length (tT (ps++n))/\Bl w w':=by
 have HM:=am hm;have HR:=am hr;obtain⟨i0,hi,cL,bZ,bA⟩:=info_parts Tryz.NH;have Og:m+r<=8796093022208:=(by omega);have HB:=am hb;have S0:=am s0;have S1:=am s1;clear hm hr hb s0 s1;go_enter func113,ntmps113;go_wp2;go_loopw [3,11] (fun v i wr=>∃j:Nat,j<=2/\i=.int I j/\v=.int I (yj m r j:Nat)/\wr=w) (fun _ i _=>2 - (intOf i).toNat);case atStart=>exact⟨0,by omega,rfl,rfl,rfl⟩
 case round=>
  obtain⟨j,hj,rfl,rfl,hw⟩:=hrel;subst hw;by_cases K:j<2
  ·have T:∃u o x,wr.cell? (Y y j U)=Z (O u o x)/\yj m r (j+1)=yj m r j+o/\o<=m+r:=by
    match j,K with
    | 0,_=>exact⟨G,m,d,S0.out,by simp[yj],by omega⟩
    | 1,_=>exact⟨F,r,S,S1.out,by simp[yj],by omega⟩
   obtain⟨u,o,x,f0,hs,hx⟩:=T;have HS:=am hs;have av:=aew m r j;have hd:decide ((j:Int)<2)=ap:=(by simp;omega);clear hs;obtain⟨sj,ZZ⟩:=nm (yj m r j);rw[<-ZZ] at HS av⊢;clear ZZ;go_wp2;go_roundw;case rel=>exact⟨j+1,by omega,by go_num,by rw[HS.out];go_num,trivial⟩
   case measure=>simp[intOf];omega
  ·obtain rfl:j=2:=(by omega);obtain⟨c,ZA⟩:∃c,c=wr:=⟨wr,rfl⟩;subst ZA;obtain⟨s,V⟩:=nm (yj m r 2);rw[<-V];have ad:s=m+r:=(by rw[V];rfl);have W:=am ad;have aI:s<=8796093022208:=(by omega);have ax:∀(v:aw) (w2:au),Qh c w2 v [] s->True:=fun _ _ _=>trivial;clear V ad K hj ax;have HG:ah (aC prog 159 #[O U 0 0,.int I s] c fun e w'=>∃v,e=aE v/\Qh c w' v [] s):=by
    by_cases h0:s=0
    ·subst h0;refine(amj c).mono ?_;rintro e w' ⟨rfl,rfl⟩;exact⟨_,rfl,aF _ _,.inl ⟨rfl,rfl⟩⟩
    ·refine(amk s c (by omega) (by rw[W.out];exact HB.out)).mono ?_;rintro e w' ⟨a,rfl,L,bF,cw⟩;exact⟨_,rfl,cw,.inr ⟨_,a,rfl,L,aD _,bF⟩⟩
   go_wp2_with fail;refine HG.mono ?_;rintro e w2 ⟨v2,rfl,di⟩;have t:=am di;clear di;go_wp2;go_loopw [6,27] (fun v i B=>∃j:Nat,j<=2/\i=.int I j/\ah (Qh c B v (Au ps n j) s)) (fun _ i _=>2 - (intOf i).toNat);case atStart=>exact⟨0,by omega,rfl,t⟩
   case round=>
    clear t;obtain⟨j,hj,rfl,t⟩:=hrel;have N:=t.1;by_cases K:j<2
    ·have T:∃u o x X Qp,∃z:List (Lv),c.cell? (Y y j U)=Z (O u o x)/\o=z.length/\FZ c u X Qp z/\Au ps n (j+1)=Au ps n j++z/\(Au ps n j).length+o<=s:=by
      have h1:=HM.out;have h2:=HR.out;have h3:=W.out
      match j,K with
      | 0,_=>exact⟨G,m,d,b,off,ps,S0.out,h1,hp,by simp[Au],by simp[Au];omega⟩
      | 1,_=>exact⟨F,r,S,b',qe,n,S1.out,h2,hq,by simp[Au],by simp[Au];omega⟩
     obtain⟨u,o,x,X,Qp,z,f,Zw,ae,af,Ss⟩:=T;have f0:=(N.cell (p:=(Y y j U)) ls).trans f;have P:=am Zw;have Q:=am ae;have VZ:=am af;obtain⟨l,C⟩:=nm (Au ps n j);rw[<-C] at t VZ Ss;have VU:=am Ss;have hd:decide ((j:Int)<2)=ap:=(by simp;omega);have aJ:=gD ls N.size;have zJ:=am N;clear Zw ae af C f Ss N;by_cases CR:o=0
     ·have sO:=List.length_eq_zero_iff.1 (by rw[<-P.out];exact CR);have su:ah (Au ps n (j+1)=l):=(by show _=_;rw[VZ.out,sO];simp);subst CR;clear sO;have H8:∃E q a,u6=O E q a/\q<=a:=by
       rcases t.2 with⟨_,h⟩|⟨g,a,h,L,_,_⟩
       ·exact⟨U,0,0,h,aD _⟩
       ·exact⟨_,_,a,h,by have:=VU.out;omega⟩
      obtain⟨E,q,a,hu,ai⟩:=H8;subst hu;have MA:ah (∀ty B,(Builtin.append_ #[63,63] ty #[O E q a,O u 0 x]).run prog B=.ok (O E q a) B):=fun ty B=>aqd E u q a x ty B ai;clear ai;go_wp2_with (at_builtin;refine Lib.wpList_append_run _ rfl _ _ _ _ rfl _ _ rfl rfl _ _ (MA.out _ _) ?_);go_roundw;case rel=>exact⟨j+1,by omega,by go_num,by rw[su.out];exact t⟩
      case measure=>simp[intOf];omega
     ·have jb:=Q.dR (by have:=P.out;omega);subst jb;have H8:∃g a,u6=O (Z (Y g 0 U)) l.length a/\s<=a/\c.heap.size<=g/\ah (wr.ownsRow c.heap.size 109 15 (O (Z (Y g 0 U)) l.length a) l.length (tT l)):=by
       rcases t.2 with⟨h,_⟩|⟨g,a,h,L,hg,R⟩
       ·have:=VU.out;omega
       ·exact⟨g,a,h,L,hg,by rw[h] at R;exact R⟩
      obtain⟨g,a,hu,ay,aG,HO⟩:=H8;subst hu;have lW:=am ((Q.later zJ.out).flat);have aH:ah (l.length+o<=a):=(by have:=VU.out;show _<=_;omega);go_wp2_with (at_builtin;refine wpList_append_own_spare _ rfl _ _ 63 rfl c.heap.size 109 i0 15 underlying63 hi bZ g l.length a _ rfl HO.out (Y X Qp U) o x (tT z) rfl ?c0 lW.out Q.one aH.out ?_);case c0=>rw[Q.len,P.out]
      ·intro w3 ao ar;have Me:ah (Qh c w3 (O (Z (Y g 0 U)) (l.length+o) a) (l++z) s):=by
        have C:(l++z).length=l.length+o:=(by rw[List.length_append,P.out]);refine⟨zJ.grown ar zJ.size (fun k he=>by simp at he;omega),.inr ⟨g,a,by rw[C],ay,aG,?_⟩⟩;rw[C];simpa[tT] using ao
       clear ao ar;go_wp2;go_roundw;case rel=>exact⟨j+1,by omega,by go_num,by rw[VZ.out];exact Me⟩
       case measure=>simp[intOf];omega
    ·obtain rfl:j=2:=(by omega);have HF:ah (wr.ownsRow c.heap.size 109 15 u6 (ps++n).length (tT (ps++n))):=by
      rcases t.2 with⟨h,hv⟩|⟨g,a,h,_,_,R⟩
      ·have e:ps++n=[]:=(by apply List.length_eq_zero_iff.1;have h1:=HM.out;have h2:=HR.out;have h3:=W.out;rw[List.length_append];omega);rw[hv,e];exact World.ownsRow_nil _ _ _ _
      ·exact R
     go_wp2;go_ret;exact⟨_,rfl,HF.out,t.1⟩
section
open Go.RowKit Go.Maps
theorem Nx:Keyed prog 3:=int_keyed underlying3
theorem NB {n:Int}(h:(Lit.int I n).wf=ap):keyOf prog 3 (.int I n)=Z (.int I n):=keyOf_int_mk underlying3 h
theorem akt {n m:Int}(h:n≠m):Lit.int I n≠Lit.int I m:=by
 intro e;injection e with _ e
 exact h e
theorem Y8 (n:Int):WideAt.IsKeyLit (Lit.int I n):=trivial
theorem aen (w:au):∃w1 a,(Instr.mapUpdate 227 (.map (Z w.heap.size)) (.int I 1) (.int I 999999999)).run prog (w.alloc (.map #[] 0))=.ok () w1/\(Instr.mapUpdate 227 (.map (Z w.heap.size)) (.int I 2) (.int I 1)).run prog w1=.ok () a/\Bl w a/\
 (Instr.lookup 227 (.map (Z w.heap.size)) (.int I 1) ak).run prog a=.ok (.int I 999999999) a/\(Instr.lookup 227 (.map (Z w.heap.size)) (.int I 2) ak).run prog a=.ok (.int I 1) a:=by
 have g:=underlying227;have i:(w.alloc (.map #[] 0)).ownsMap prog 3 MR w.heap.size 0 _:=World.ownsMap_made w _ _ _;obtain⟨w1,p,k,q⟩:=i.update Nx g (by simp[maxLen]) (NB (n:=1) (by decide)) (val:=.int I 999999999) (d:=.held (.int I 999999999)) (ps:=[]) rfl;obtain⟨a,r,l,s⟩:=k.update Nx g (by simp[maxLen]) (NB (n:=2) (by decide)) (val:=.int I 1) (d:=.held (.int I 1)) (ps:=[]) rfl;have m:(zeroValue 3).run prog a=.ok (.int I 0) a:=(by simp[go_sem]);refine⟨w1,a,p,r,?_,?_,?_⟩
 ·have b:Bl w (w.alloc (.map #[] 0)):=(aF _ _).alloc (aD _) _;have c:=cU q s;exact⟨c.os.trans b.os,c.tape.trans b.tape,c.output.trans b.output,fC b.size c.size,fun j o=>(c.block j (gD o b.size) (by simp;omega)).trans (b.block j o)⟩
 ·obtain⟨t,ps,h,f⟩:=l.lookup Nx g m (zd:=.held (.int I 0)) (zp:=[]) rfl (NB (n:=1) (by decide));rw[atKey_put_other (akt (by decide)),atKey_put_same i.isMap (Y8 1)] at f;have e:=Gw f;rw[<-e];exact h
 ·obtain⟨t,ps,h,f⟩:=l.lookup Nx g m (zd:=.held (.int I 0)) (zp:=[]) rfl (NB (n:=2) (by decide));rw[atKey_put_same k.isMap (Y8 2)] at f;have e:=Gw f;rw[<-e];exact h
end
open ag (Tr Po ba)
theorem aby (Q a:Oa)(b off j l n c d:Nat)(ls:List Bt)(w:au)(hn:n=ls.length)(hm:n<=maxLen)(f:Strs w Q b off ls)(g:Strs w a j l ls):
 aC prog 17 #[O Q n c,O a n d] w fun e w'=>e=aE (.bool ap)/\Bl w w':=by
 have o:=am hn;unfold maxLen at hm;clear hn;go_enter func17,ntmps17;go_wp2;go_loopw [13] (fun i wr=>∃k:Nat,k<=n/\i=.int I k/\∃m,wr=w.drewN m) (fun i _=>n - (intOf i).toNat);case atStart=>exact⟨0,eJ _,rfl,0,rfl⟩
 case round=>
  obtain⟨k,s,rfl,m,rfl⟩:=hrel;by_cases t:k<n
  ·have p:=o.out;have h:k<ls.length:=(by omega);have q:=f.dR (by omega);have r:=g.dR (by omega);have f1:=f.cell k h;have f2:=g.cell k h;obtain⟨x,hx⟩:=nm (ls[k]);rw[<-hx] at f1 f2;subst q r;clear p hx;go_wp2
   go_quiet (fail)
   go_wp2;go_roundw;case rel=>exact⟨k+1,by omega,by go_num,m+nq,by simp⟩
   case measure=>simp[intOf];omega
  ·go_wp2;go_ret;exact⟨rfl,⟨rfl,rfl,rfl,aD _,fun _ _=>rfl⟩⟩
theorem afo (p:nG)(u v:aw)(w:au)(o:zu w u p.2)(q:zu w v p.2)(f:p.2.length<=maxLen):
 aC prog 65 #[.agg #[.string p.1,u],.agg #[.string p.1,v]] w fun e w'=>e=aE (.bool ap)/\Bl w w':=by
 obtain⟨g,h⟩:=p;obtain⟨i,rb,r,j,s,_,_,b⟩:=o;obtain⟨k,t,x,l,y,_,_,c⟩:=q;subst s y;simp only at b c f⊢;obtain⟨n,hn⟩:=nm h.length;rw[<-hn];obtain⟨wz,d⟩:=nm ((w.alloc (M #[.string g,O i n j] 119)).alloc (M #[.string g,O k n l] 119));have a:=lU d;have z:=aby i k rb r t x n j l h wz hn (by omega) (b.later a) (c.later a);have m:=am a;have B:=am d;clear hn b c f a d;go_enter func65,ntmps65;go_wp2_with fail;rw[<-B.out];refine z.mono ?_;rintro e w1 ⟨rfl,C⟩;go_wp2;go_ret;exact⟨rfl,m.trans (C.mono m.size)⟩
theorem ans (Q v:Oa)(b off P R n c d:Nat)(x:List nG)(w:au)(hn:n=x.length)(hm:n<=maxLen)(y:DC w Q b off x)(z:DC w v P R x)(B:∀p∈x,p.2.length<=maxLen):
 aC prog 64 #[O Q n c,O v n d,.func (.func 65) #[] #[]] w fun e w'=>e=aE (.bool ap)/\Bl w w':=by
 have S:=am hn;unfold maxLen at hm;have T:=am y;have V:=am z;have W:=am B;have eg:=enters_of func65 (by kernel_rfl) rfl;clear hn y z B;go_enter func64,ntmps64;go_wp2;go_loopw [17] (fun i wr=>∃k:Nat,k<=n/\i=.int I k/\ah (Bl w wr)) (fun i _=>n - (intOf i).toNat);case atStart=>exact⟨0,eJ _,rfl,aF _ _⟩
 case round=>
  obtain⟨k,hk,rfl,j⟩:=hrel;by_cases aK:k<n
  ·have l:k<x.length:=(by have:=S.out;omega);have o:=T.later j.out;have m:=V.later j.out;have X:=o.dR (by omega);have ad:=m.dR (by omega);have f0:=o.c0 k l;obtain⟨pv,f1,q⟩:=o.c1 k l;have g0:=m.c0 k l;obtain⟨qv,g1,r⟩:=m.c1 k l;have t:=W.out _ (List.getElem_mem l);obtain⟨p,C⟩:=nm (x[k]);rw[<-C] at f0 q g0 r t;obtain⟨a,f,g,fU⟩:∃a f g,pv=O a g f:=(by obtain⟨a,_,_,f,h,_⟩:=q;exact⟨a,f,_,h⟩);obtain⟨E,F,G,xv⟩:∃a f g,qv=O a g f:=(by obtain⟨a,_,_,f,h,_⟩:=r;exact⟨a,f,_,h⟩);subst fU xv;obtain⟨wz,u⟩:=nm ((wr.alloc (M #[.string p.1,O a g f] 119)).alloc (M #[.string p.1,O E G F] 119));have s:=lU u;have K:=afo p (O a g f) (O E G F) wz (q.later s) (r.later s) t;have L:=am s;have kZ:=am u;have l1:=m.lt (by omega);clear o m C q r t s u;subst X ad;go_wp2_with fail;rw[<-kZ.out];refine K.mono ?_;rintro e w1 ⟨rfl,N⟩;have cX:=am (j.trans ((L.trans (N.mono L.size)).mono j.size));clear N K;go_wp2;go_roundw;case rel=>exact⟨k+1,by omega,by go_num,cX⟩
   case measure=>simp[intOf];omega
  ·have dQ:k=n:=(by omega);go_wp2;go_ret;exact⟨rfl,j.out⟩
theorem Ju {u:aw}(d:dw w S u l)(h:dw w S' v l):
 aC prog 19 #[u,v] w fun e w'=>e=aE (.bool ap)/\Bl w w':=by
 have j:∀p∈l,p.2.length<=maxLen:=fun p m=>by
  obtain⟨Q,b,off,c,_,_,_,a⟩:=d.sD;obtain⟨i,n,rfl⟩:=List.mem_iff_getElem.1 m;obtain⟨x,_,z,rb,B,C,_,f,g,_⟩:=a.yw.c1 i n;exact fC f g
 obtain⟨Q,b,off,c,rfl,f,g,a⟩:=d.sD;obtain⟨o,q,r,s,rfl,E,F,k⟩:=h.sD;have t:=ans Q o b off q r l.length c s l w rfl (fC f g) a.yw k.yw j;clear a k j d h;go_enter func19,ntmps19;go_wp2_with fail;refine t.mono ?_;rintro e w1 ⟨rfl,y⟩;go_wp2;go_ret;exact⟨rfl,y⟩
def Uc (t:Tr):Prop:=∀(w:au) (S S':Np) (ca cb:Lv),aS w S t ca->aS w S' t cb->aC prog 66 #[.agg ca.toArray,.agg cb.toArray] w fun e w'=>e=aE (.bool ap)/\Bl w w'
theorem Pc {p n t:Int}{s:Bt}(h:ag.gI (.mk k p n t s l a)<=m+1):∀i (b:i<a.length),ag.gI a[i]<=m:=fun i b=>by
 have c:=h;exact ag.Pd.1 (Nat.le_of_succ_le_succ c) _ (List.getElem_mem b)
theorem Ep (h:aS w S t cs):∃(z0 z1 z2 a:Int) (b:Bt) (c:Oa) (d d5:Nat) (e:Oa) (f d6:Nat),cs=[.int I z0,.int I z1,.int I z2,.int I a,.string b,O c d d5,O e f d6]:=by
 cases h with
 | mk l g i m n=>
  obtain⟨_,_,_,_,j,_⟩:=g.sD;obtain⟨_,_,_,_,k,_⟩:=i;subst j k;exact⟨_,_,_,_,_,_,_,_,_,_,_,rfl⟩
theorem afh (hk:∀i (h:i<(ag.qf t).length),Uc (ag.qf t)[i]):Uc t:=by
 intro w S S' ca cb ha d;cases ha with
 | @mk k p n R s l a lv av ai hs r hr c ot=>
 cases d with
 | @mk _ _ _ _ _ _ _ rH aJ gd Fe uv Bp ad af=>
 simp only[ag.qf] at hk;obtain⟨Q,ab,f,ac,rfl,W⟩:=hr;obtain⟨bo,g,o,X,rfl,KP⟩:=Bp;obtain⟨m,hm⟩:=nm a.length;have lj:m<=maxLen:=(by rw[hm,<-c];exact fC W.cap W.mx);obtain⟨z,B,C,rfl⟩:∃z B C,lv=O z B C:=(by obtain⟨_,_,_,_,h,_⟩:=r.sD;exact⟨_,_,_,h⟩);obtain⟨pA,Nr,rJ,rfl⟩:∃z B C,rH=O z B C:=(by obtain⟨_,_,_,_,h,_⟩:=uv.sD;exact⟨_,_,_,h⟩);rw[c,<-hm,ad,<-hm];obtain⟨wz,T⟩:=nm ((w.alloc (M #[.int I k,.int I p,.int I n,.int I R,.string s,O z B C,O Q m ac] 48)).alloc (M #[.int I k,.int I p,.int I n,.int I R,.string s,O pA Nr rJ,O bo m X] 48));have kZ:=am T;have cM:=lU T;have o7:ah (wz.heap[w.heap.size]? =Z (M #[.int I k,.int I p,.int I n,.int I R,.string s,O z B C,O Q m ac] 48)):=by
  show _=_;rw[T];exact cR (cu _ _ _ rfl)
 have qB:ah (wz.heap[w.heap.size+1]? =Z (M #[.int I k,.int I p,.int I n,.int I R,.string s,O pA Nr rJ,O bo m X] 48)):=(by show _=_;rw[T];have e:(w.alloc (M #[.int I k,.int I p,.int I n,.int I R,.string s,O z B C,O Q m ac] 48)).heap.size=w.heap.size+1:=(by simp);rw[<-e];exact cu _ _ _ rfl);have L:=am cM;have HK:=am hk;have HA:=am W;have HB:=am KP;have qI:=am ot;have ua:=am af;have ar:=am r;have Cd:=am uv;have HM:=am hm;have lW:=am c;have su:=am ad;unfold maxLen at lj;clear hk ot af r uv hm W KP c ad hs Fe cM T;go_enter func66,ntmps66;obtain⟨⟨z0,z1,z2,z3,z4,z5,z6⟩,f0,f1,f2,f3,f4,f5,f6⟩:=fa o7.out;obtain⟨⟨y0,y1,y2,y3,y4,y5,y6⟩,g0,g1,g2,g3,g4,g5,g6⟩:=fa qB.out;have u:=J o7.out;have v:=J qB.out;go_upto_region 1 with fail
 rw[<-kZ.out];go_wp2;go_loopw [16] (fun i wr=>∃j:Nat,j<=m/\i=.int I j/\ah (Bl wz wr)) (fun i _=>m - (intOf i).toNat);case atStart=>exact⟨0,eJ _,rfl,aF _ _⟩
 case round=>
  obtain⟨j,hj,rfl,E⟩:=hrel;obtain⟨c,KB⟩:=oX E.out;have lw:=E.size;have kF:=(c _ _ u).trans z6;have ax:=(c _ _ v).trans y6;by_cases aK:j<m
  ·have V:j<a.length:=(by have:=HM.out;omega);have fg:j<ai.length:=(by rw[lW.out];exact V);have kV:j<gd.length:=(by rw[su.out];exact V);obtain rfl:=HA.dR (by omega);obtain rfl:=HB.dR (by omega);have h1:=qI.out j V fg;have h2:=ua.out j V kV;have x:=fun i ae=>HA.cell j fg i ae;have y:=fun i ae=>HB.cell j kV i ae;have F:=HA.lt (by omega);have G:=HB.lt (by omega);have cT:=HK.out j V;obtain⟨x0,x1,x2,x3,x4,x5,jT,j7,x6,oL,oV,hx⟩:=Ep h1;obtain⟨v0,v1,v2,v3,v4,v5,JD,Lw,v6,JC,Lt,hv⟩:=Ep h2;rw[hx] at h1 x;rw[hv] at h2 y;have ay:ah (∀w',Bl wr w'->w'.cell? (Y w.heap.size 6 U)=Z (O (Z (Y ab f U)) m ac)/\w'.cell? (Y (w.heap.size+1) 6 U)=Z (O (Z (Y g o U)) m X)/\w'.cell? (Y ab (f+j*7) U)=Z (.int I x0)/\w'.cell? (Y ab (f+j*7+1) U)=Z (.int I x1)/\w'.cell? (Y ab (f+j*7+2) U)=Z (.int I x2)/\w'.cell? (Y ab (f+j*7+3) U)=Z (.int I x3)/\w'.cell? (Y ab (f+j*7+4) U)=Z (.string x4)/\w'.cell? (Y ab (f+j*7+5) U)=Z (O x5 jT j7)/\w'.cell? (Y ab (f+j*7+6) U)=Z (O x6 oL oV)/\w'.cell? (Y g (o+j*7) U)=Z (.int I v0)/\w'.cell? (Y g (o+j*7+1) U)=Z (.int I v1)/\w'.cell? (Y g (o+j*7+2) U)=Z (.int I v2)/\w'.cell? (Y g (o+j*7+3) U)=Z (.int I v3)/\w'.cell? (Y g (o+j*7+4) U)=Z (.string v4)/\w'.cell? (Y g (o+j*7+5) U)=Z (O v5 JD Lw)/\w'.cell? (Y g (o+j*7+6) U)=Z (O v6 JC Lt)):=fun w' N=>by
    obtain⟨eP,_⟩:=oX (E.trans (N.mono lw));obtain⟨q,_⟩:=oX (L.trans ((E.trans (N.mono lw)).mono L.size));exact⟨(eP _ _ u).trans z6,(eP _ _ v).trans y6,(q _ _ F).trans (x 0 _ rfl),(q _ _ F).trans (x 1 _ rfl),(q _ _ F).trans (x 2 _ rfl),(q _ _ F).trans (x 3 _ rfl),(q _ _ F).trans (x 4 _ rfl),(q _ _ F).trans (x 5 _ rfl),(q _ _ F).trans (x 6 _ rfl),(q _ _ G).trans (y 0 _ rfl),(q _ _ G).trans (y 1 _ rfl),(q _ _ G).trans (y 2 _ rfl),(q _ _ G).trans (y 3 _ rfl),(q _ _ G).trans (y 4 _ rfl),(q _ _ G).trans (y 5 _ rfl),(q _ _ G).trans (y 6 _ rfl)⟩
   have I4:ah (∀w',Bl wr w'->aC prog 66 #[.agg #[.int I x0,.int I x1,.int I x2,.int I x3,.string x4,O x5 jT j7,O x6 oL oV],.agg #[.int I v0,.int I v1,.int I v2,.int I v3,.string v4,O v5 JD Lw,O v6 JC Lt]] w' fun e ek=>e=aE (.bool ap)/\Bl wr ek):=fun w' N=>by
    have K:=L.trans ((E.trans (N.mono lw)).mono L.size);refine(cT w' (fun b=>S b/\b<w.heap.size) (fun b=>S' b/\b<w.heap.size) _ _ (aS.keeps (h1.mono fun b d r=>⟨d,r⟩) ⟨K.size,fun b d _=>K.block b d.2⟩) (aS.keeps (h2.mono fun b d r=>⟨d,r⟩) ⟨K.size,fun b d _=>K.block b d.2⟩)).mono ?_;rintro e w2 ⟨rfl,aT⟩;exact⟨rfl,N.trans (aT.mono N.size)⟩
   clear cT h1 h2 x y hx hv kF ax c KB;go_upto_region 6 with fail
   go_cut [30] (fun aG wc=>aG=.bool ak/\ah (Bl wr wc))
   case first=>
    have KQ:Bl wr wr.drew:=⟨rfl,rfl,rfl,aD _,fun _ _=>rfl⟩;have aH:=I4.out
    go_region_held3 (fun w'=>w'.cell? (Y w.heap.size 6 U)=Z (O (Z (Y ab f U)) m ac)/\w'.cell? (Y (w.heap.size+1) 6 U)=Z (O (Z (Y g o U)) m X)/\w'.cell? (Y ab (f+j*7) U)=Z (.int I x0)/\w'.cell? (Y ab (f+j*7+1) U)=Z (.int I x1)/\w'.cell? (Y ab (f+j*7+2) U)=Z (.int I x2)/\w'.cell? (Y ab (f+j*7+3) U)=Z (.int I x3)/\w'.cell? (Y ab (f+j*7+4) U)=Z (.string x4)/\w'.cell? (Y ab (f+j*7+5) U)=Z (O x5 jT j7)/\w'.cell? (Y ab (f+j*7+6) U)=Z (O x6 oL oV)/\w'.cell? (Y g (o+j*7) U)=Z (.int I v0)/\w'.cell? (Y g (o+j*7+1) U)=Z (.int I v1)/\w'.cell? (Y g (o+j*7+2) U)=Z (.int I v2)/\w'.cell? (Y g (o+j*7+3) U)=Z (.int I v3)/\w'.cell? (Y g (o+j*7+4) U)=Z (.string v4)/\w'.cell? (Y g (o+j*7+5) U)=Z (O v5 JD Lw)/\w'.cell? (Y g (o+j*7+6) U)=Z (O v6 JC Lt)) (exact ay.out _ (by assumption)) ((go_at_call 66;refine(aH _ (by assumption)).mono ?_;rintro e w2 ⟨rfl,K⟩))
    go_wp2_with fail;go_meet;exact⟨rfl,by assumption⟩
   case rest=>
    obtain⟨rfl,iW⟩:=hcut;have kB:=am (E.trans (iW.mono lw));go_wp2;go_roundw;case rel=>exact⟨j+1,by omega,by go_num,kB⟩
    case measure=>simp[intOf];omega
  ·obtain rfl:j=m:=(by omega);have r0:=(c _ _ u).trans z0;have t0:=(c _ _ v).trans y0;have r1:=(c _ _ u).trans z1;have t1:=(c _ _ v).trans y1;have r2:=(c _ _ u).trans z2;have t2:=(c _ _ v).trans y2;have r3:=(c _ _ u).trans z3;have t3:=(c _ _ v).trans y3;have r4:=(c _ _ u).trans z4;have t4:=(c _ _ v).trans y4;have r5:=(c _ _ u).trans z5;have t5:=(c _ _ v).trans y5;have rf:=(KB _ _ u).trans f6;have tf:=(KB _ _ v).trans g6;have l1:w.heap.size<wr.heap.size:=(by omega);have l2:w.heap.size+1<wr.heap.size:=(by omega);obtain⟨we,RX⟩:=nm ((wr.setCell (Y w.heap.size 6 U) (O U 0 0)).setCell (Y (w.heap.size+1) 6 U) (O U 0 0));have P:Bl w we:=(by rw[RX];exact((L.trans (E.mono L.size)).setCell (by show w.heap.size<=w.heap.size;omega) _).setCell (by show w.heap.size<=w.heap.size+1;omega) _);have aI:=am RX;have tw:=am P;have mE:=Ju (S:=fun b=>S b/\b<w.heap.size) (S':=fun b=>S' b/\b<w.heap.size) ((ar.mono fun b d r=>⟨d,r⟩).keeps ⟨P.size,fun b d _=>P.block b d.2⟩) ((Cd.mono fun b d r=>⟨d,r⟩).keeps ⟨P.size,fun b d _=>P.block b d.2⟩);clear c KB RX P z0 z1 z2 z3 z4 z5 z6 y0 y1 y2 y3 y4 y5 y6 f0 f1 f2 f3 f4 f5 f6 g0 g1 g2 g3 g4 g5 g6;go_wp2_with fail;rw[<-aI.out];refine mE.mono ?_;rintro e w2 ⟨rfl,K⟩;go_wp2;go_ret;exact⟨rfl,tw.trans (K.mono tw.size)⟩
theorem afj:∀(m:Nat) (t:Tr),ag.gI t<=m->Uc t:=by
 intro m;induction m with
 | zero=>intro t h;have:=ag.Do t;omega
 | succ m b=>
  intro t h;obtain⟨k,p,n,d,s,l,a⟩:=t;exact afh fun i c=>b _ (Pc h i c)
theorem afm {a b:Lv}(c:aS w S t a)(d:aS w S' t b):aC prog 66 #[.agg a.toArray,.agg b.toArray] w fun e w'=>e=aE (.bool ap)/\Bl w w':=afj _ t (aD _) w S S' a b c d
theorem Xf {sz:Nat}{n c:Nat}{css:List (Lv)}(h:qy w S sz Q b off n c css)(k:∀b,S b->b<w.heap.size->S' b):qy w S' sz Q b off n c css:=
 ⟨h.ln,h.cap,h.mx,h.dR,fun a=>k b (h.ok a) (h.lt a),h.pl,h.A0,h.cell⟩
def Pv (t:Tr):Prop:=∀(w:au) (S S':Np) (ca cb:Lv),aS w S t ca->aS w S' t cb->aC prog 69 #[.agg ca.toArray,.agg cb.toArray] w fun e w'=>e=aE (.bool ap)/\Bl w w'
theorem anB {E:Oa}{ab F ac u G K:Nat}{css n:List (Lv)}(L:∀i (h:i<a.length),Pv a[i])(hm:m=a.length)(q:qy w S 7 Q ab F css.length ac css)(N:qy w S' 7 E u G n.length K n)(v:css.length=a.length)(P:n.length=a.length)(R:∀i (h:i<a.length) (h':i<css.length),aS w S a[i] css[i])(T:∀i (h:i<a.length) (h':i<n.length),aS w S' a[i] n[i]):
 aC prog 119 #[O Q m ac,O E m K,.func (.func 69) #[] #[]] w fun e w'=>e=aE (.bool ap)/\Bl w w':=by
 have lj:m<=maxLen:=(by rw[hm,<-v];exact fC q.cap q.mx);have HK:=am L;have x:=am q;have y:=am N;have qI:=am R;have ua:=am T;have HM:=am hm;have lW:=am v;have su:=am P;have eg:=enters_of func69 (by kernel_rfl) rfl;unfold maxLen at lj;clear L hm q N v P R T;go_enter func119,ntmps119;go_wp2;go_loopw [17] (fun i wr=>∃j:Nat,j<=m/\i=.int I j/\ah (Bl w wr)) (fun i _=>m - (intOf i).toNat);case atStart=>exact⟨0,eJ _,rfl,aF _ _⟩
 case round=>
  obtain⟨j,hj,rfl,r⟩:=hrel;by_cases aK:j<m
  ·have p:j<a.length:=(by have:=HM.out;omega);have V:j<css.length:=(by rw[lW.out];exact p);have W:j<n.length:=(by rw[su.out];exact p);obtain rfl:=x.dR (by omega);obtain rfl:=y.dR (by omega);have s:=qI.out j p V;have t:=ua.out j p W;have d:=fun i z=>x.cell j V i z;have f:=fun i z=>y.cell j W i z;have g:=x.lt (by omega);have k:=y.lt (by omega);have X:=HK.out j p;obtain⟨x0,x1,x2,x3,x4,x5,jT,j7,x6,oL,oV,hx⟩:=Ep s;obtain⟨v0,v1,v2,v3,v4,v5,JD,Lw,v6,JC,Lt,hv⟩:=Ep t;rw[hx] at s d;rw[hv] at t f;obtain⟨c,_⟩:=oX r.out;have lw:=r.size;have p0:wr.cell? (Y ab (F+j*7) U)=Z (.int I x0):=(c _ _ g).trans (d 0 _ rfl);have q0:wr.cell? (Y u (G+j*7) U)=Z (.int I v0):=(c _ _ k).trans (f 0 _ rfl);have p1:=(c _ _ g).trans (d 1 _ rfl);have q1:=(c _ _ k).trans (f 1 _ rfl);have p2:=(c _ _ g).trans (d 2 _ rfl);have q2:=(c _ _ k).trans (f 2 _ rfl);have p3:=(c _ _ g).trans (d 3 _ rfl);have q3:=(c _ _ k).trans (f 3 _ rfl);have p4:=(c _ _ g).trans (d 4 _ rfl);have q4:=(c _ _ k).trans (f 4 _ rfl);have p5:=(c _ _ g).trans (d 5 _ rfl);have q5:=(c _ _ k).trans (f 5 _ rfl);have p6:=(c _ _ g).trans (d 6 _ rfl);have q6:=(c _ _ k).trans (f 6 _ rfl);obtain⟨wz,B⟩:=nm ((wr.alloc (M #[.int I x0,.int I x1,.int I x2,.int I x3,.string x4,O x5 jT j7,O x6 oL oV] 48)).alloc (M #[.int I v0,.int I v1,.int I v2,.int I v3,.string v4,O v5 JD Lw,O v6 JC Lt] 48));have cM:=lU B;have o:=r.trans (cM.mono lw);have rT:=X wz (fun b=>S b/\b<w.heap.size) (fun b=>S' b/\b<w.heap.size) _ _ (aS.keeps (s.mono fun b l C=>⟨l,C⟩) ⟨o.size,fun b l _=>o.block b l.2⟩) (aS.keeps (t.mono fun b l C=>⟨l,C⟩) ⟨o.size,fun b l _=>o.block b l.2⟩);have dD:=am o;have kZ:=am B;have lr:ab<wr.heap.size:=(by omega);have oe:u<wr.heap.size:=(by omega);clear X s t d f hx hv c cM o B;go_wp2_with fail;rw[<-kZ.out];refine rT.mono ?_;rintro e w2 ⟨rfl,aT⟩;have kB:=bt dD aT
   clear aT rT;go_wp2;go_roundw;case rel=>exact⟨j+1,by omega,by go_num,kB⟩
   case measure=>simp[intOf];omega
  ·obtain rfl:j=m:=(by omega);go_wp2;go_ret;exact⟨rfl,r.out⟩
theorem aeI (q:∀i (h:i<(ag.qf t).length),Pv (ag.qf t)[i]):Pv t:=by
 intro w S S' ca cb K c;cases K with
 | @mk k p n y s l a L av ad N d P r z=>
 cases c with
 | @mk _ _ _ _ _ _ _ R ae gd T B V u C=>
 simp only[ag.qf] at q;obtain⟨Q,ab,bC,ac,rfl,E⟩:=P;obtain⟨W,bb,aW,X,rfl,F⟩:=V;obtain⟨m,hm⟩:=nm a.length;obtain⟨g,j,o,rfl⟩:∃g j o,L=O g j o:=(by obtain⟨_,_,_,_,h,_⟩:=d.sD;exact⟨_,_,_,h⟩);obtain⟨pA,Nr,rJ,rfl⟩:∃g j o,R=O g j o:=(by obtain⟨_,_,_,_,h,_⟩:=B.sD;exact⟨_,_,_,h⟩);obtain⟨wz,v⟩:=nm ((w.alloc (M #[.int I k,.int I p,.int I n,.int I y,.string s,O g j o,O Q m ac] 48)).alloc (M #[.int I k,.int I p,.int I n,.int I y,.string s,O pA Nr rJ,O W m X] 48));have f:=lU v;have cT:=anB (w:=wz) (S:=fun b=>S b/\b<w.heap.size) (S':=fun b=>S' b/\b<w.heap.size) q hm ((Xf E fun b c d=>⟨c,d⟩).keeps ⟨f.size,fun b c _=>f.block b c.2⟩) ((Xf F fun b c d=>⟨c,d⟩).keeps ⟨f.size,fun b c _=>f.block b c.2⟩) r u (fun i h x=>aS.keeps ((z i h x).mono fun b c d=>⟨c,d⟩) ⟨f.size,fun b c _=>f.block b c.2⟩) (fun i h x=>aS.keeps ((C i h x).mono fun b c d=>⟨c,d⟩) ⟨f.size,fun b c _=>f.block b c.2⟩);rw[r,<-hm,u,<-hm];have kZ:=am v;have G:=am f;clear q z C d B hm E F r u N T f v;go_enter func69,ntmps69;go_wp2_with fail;rw[<-kZ.out];refine cT.mono ?_;rintro e w2 ⟨rfl,aH⟩;go_wp2;go_ret;exact⟨rfl,G.trans (aH.mono G.size)⟩
theorem aeJ:∀(m:Nat) (t:Tr),ag.gI t<=m->Pv t:=by
 intro m;induction m with
 | zero=>intro t h;have:=ag.Do t;omega
 | succ m b=>
  intro t h;obtain⟨k,p,n,d,s,l,a⟩:=t;exact aeI fun i c=>b _ (Pc h i c)
end Go.Proofs.YtoiiahpdbcokaaaGreatDoor
