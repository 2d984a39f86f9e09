/- parse's reader of programs: program. The closure that parse.whole defers. -/
import Derived.Test.YtepkhlpjgnckkaaGreatDoorZC7
namespace Go.Proofs.YtepkhlpjgnckkaaGreatDoor
set_option maxRecDepth 100000
set_option maxHeartbeats 8000000
open Go.RowKit
open Par (Tok Po Tr nx atP isT ba Res Stm Prm Chn Prc Prg)
theorem blk4 {w:World}{b:Nat}{x0 x1 x2 x3:Value}{e:TypeId}(h:w.heap[b]? =some (.cells #[x0,x1,x2,x3] e (0,0))):(w.cell? ⟨b,0,none⟩=some x0∧w.cell? ⟨b,1,none⟩=some x1∧w.cell? ⟨b,2,none⟩=some x2∧w.cell? ⟨b,3,none⟩=some x3)∧∀i,w.frozen? ⟨b,i,none⟩=false:=by
 refine⟨⟨?_,?_,?_,?_⟩,fun i=> ?_⟩<;>simp[World.cell?,World.frozen?,h]
theorem Par.bind_bind {α β γ:Type}(x:Res α)(f:α→List Tok→Res β)(g:β→List Tok→Res γ):(x.bind f).bind g=x.bind fun a r=>(f a r).bind g:=by
 cases x<;>rfl
def VG (B:Nat)(w':World)(p:Prg)(u:Value):Prop:=∃(co:Option Addr) (cn cc:Nat) (ao:Option Addr) (an ac:Nat) (no:Option Addr) (nn nc:Nat) (qo:Option Addr) (qn qc:Nat),u=.agg #[.slice co cn cc,.slice ao an ac,.slice no nn nc,.slice qo qn qc]∧PgIs w' (fun b=>B≤b) p [.slice co cn cc,.slice ao an ac,.slice no nn nc,.slice qo qn qc]
def rLeft (rb:Nat)(w:World):Nat:=lenOf ((w.cell? ⟨rb,0,none⟩).getD undef)
theorem Rd.left {w:World}{rb e:Nat}{bl pr:Int}{ts:List Tok}{v:Value}(h:Rd w rb e bl pr ts v):rLeft rb w=ts.length:=by
 obtain⟨ao,c,hv⟩:=h.row.val
 unfold rLeft
 rw[h.cells.1,hv]
 simp[lenOf]
structure PgS (w wr:World)(rb e pb:Nat)(res:Res Prg)(p:Prg)(ts:List Tok)(v:Value)(X:Nat→Nat→Prop)(co:Option Addr)(cn cc:Nat)(ao:Option Addr)(an ac:Nat)(no:Option Addr)(nn nc:Nat)(qo:Option Addr)(qn qc:Nat):Prop where
 n:wr.heap[w.heap.size]? =some (.cells #[.slice none 0 0,.slice none 0 0,.slice none 0 0,.slice none 0 0] 27 (0,0))
 s:wr.heap[pb]? =some (.cells #[.slice co cn cc,.slice ao an ac,.slice no nn nc,.slice qo qn qc] 27 (0,0))
 l0:Lst ElS wr (pb+1) 9 1 (X 0) (.slice co cn cc) p.chiefs
 l1:Lst AcIs wr (pb+1) 111 2 (X 1) (.slice ao an ac) p.acts
 l2:Lst ChIs wr (pb+1) 54 5 (X 2) (.slice no nn nc) p.chans
 l3:Lst PcIs wr (pb+1) 88 9 (X 3) (.slice qo qn qc) p.procs
 dj:∀i j b,X i b→X j b→i=j
 up:∀i b,X i b→pb<b∧b<wr.heap.size
 len:p.chiefs.length≤6∧p.acts.length≤10∧p.chans.length≤6∧p.procs.length≤6
 rd:Rd wr rb e 0 0 ts v
 fr:Fr w.heap.size rb w wr
 eq:res=Par.progF e ts.length p ts
theorem PgS.later {w wr w':World}{rb e pb:Nat}{res:Res Prg}{p:Prg}{ts:List Tok}{v:Value}{X:Nat→Nat→Prop}{co:Option Addr}{cn cc:Nat}{ao:Option Addr}{an ac:Nat}{no:Option Addr}{nn nc:Nat}{qo:Option Addr}{qn qc:Nat}(h:PgS w wr rb e pb res p ts v X co cn cc ao an ac no nn nc qo qn qc)(hb:Below wr.heap.size wr w')(hpb:w.heap.size≤pb):PgS w w' rb e pb res p ts v X co cn cc ao an ac no nn nc qo qn qc:=by
 have hz:=hb.size
 have hs:=lt_of_block h.s
 have hg:wr.grownBy w' none:=grown_of_below _ hb
 exact⟨(hb.block _ (lt_of_block h.n)).trans h.n,(hb.block _ hs).trans h.s,h.l0.step isElS hg (by simp),h.l1.step isElA hg (by simp),h.l2.step isElC hg (by simp),h.l3.step isElPc hg (by simp),h.dj,fun i b hx=>⟨(h.up i b hx).1,Nat.lt_of_lt_of_le (h.up i b hx).2 hz⟩,h.len,h.rd.keeps hb h.rd.lt,h.fr.trans (Fr.of_below (hb.mono (by omega))),h.eq⟩
theorem PgS.add0 {w wr w1 w':World}{rb e pb:Nat}{res:Res Prg}{p:Prg}{ts r:List Tok}{v v':Value}{X:Nat→Nat→Prop}{co:Option Addr}{cn cc:Nat}{ao:Option Addr}{an ac:Nat}{no:Option Addr}{nn nc:Nat}{qo:Option Addr}{qn qc:Nat}{uo:Option Addr}{un uc:Nat}{css:List (List Value)}{xs:List Value}{a:ByteArray}(h:PgS w wr rb e pb res p ts v X co cn cc ao an ac no nn nc qo qn qc)(hpb:w.heap.size<pb)(hrb:rb<w.heap.size)(h2:css.length=p.chiefs.length)(h3:∀i (h:i<p.chiefs.length) (h':i<css.length),ElS wr (fun b=>X 0 b∧some b≠(.slice co cn cc:Value).ownBlock) p.chiefs[i] css[i])
 (hne:p.chiefs.length≠6) (hg:wr.grownBy w1 (some rb)) (hx:ElS w1 (fun b=>wr.heap.size≤b) a xs) (hg2:w1.grownBy w' (.slice co cn cc:Value).ownBlock) (ho:w'.ownsRow (pb+1) 9 1 (.slice uo un uc) (p.chiefs.length+1) (css.flatten++xs)) (hat:(Value.slice uo un uc).ownBlock=(.slice co cn cc:Value).ownBlock∨(Value.slice uo un uc).ownBlock=some w1.heap.size) (hrd:Rd w1 rb e 0 0 r v') (heq:res=Par.progF e r.length {p with chiefs:=p.chiefs++[a]} r):
 PgS w (w'.setCell ⟨pb,0,none⟩ (.slice uo un uc)) rb e pb res {p with chiefs:=p.chiefs++[a]} r v' (fun j b=>X j b∨(j=0∧wr.heap.size≤b∧b<w'.heap.size)) uo un uc ao an ac no nn nc qo qn qc:=by
 have hz:=hg.size
 have hz2:=hg2.size
 have hs:=lt_of_block h.s
 have hown:=h.l0.own
 have ho1:∀k,(.slice co cn cc:Value).ownBlock=some k→pb<k:=fun k hk=>(h.up 0 k (hown k hk)).1
 have hnx:∀j,¬X j rb:=fun j hx=>by have:=(h.up j rb hx).1;omega
 have hnp:∀j,¬X j pb:=fun j hx=>by have:=(h.up j pb hx).1;omega
 have hb:Below (pb+1) w1 w':=⟨hg2.os,hg2.tape,hg2.output,hg2.size,fun k hk=>hg2.block k (by omega) (fun hh=>by have:=ho1 k hh.symm;omega)⟩
 have e0:(w'.setCell ⟨pb,0,none⟩ (.slice uo un uc)).heap.size=w'.heap.size:=by simp[World.setCell]
 have hset:w'.grownBy (w'.setCell ⟨pb,0,none⟩ (.slice uo un uc)) (some pb):=grown_set (grown_refl _ _) rfl _
 have hbs:Below pb w' (w'.setCell ⟨pb,0,none⟩ (.slice uo un uc)):=(Below.refl _ _).setCell (by simp) _
 have hall:Fr w.heap.size rb w (w'.setCell ⟨pb,0,none⟩ (.slice uo un uc)):=(h.fr.trans (Fr.of_grown hg (by omega))).trans ((Fr.of_below (hb.mono (by omega))).trans (Fr.of_below (hbs.mono (by omega))))
 have hsb:w'.heap[pb]? =some (.cells #[.slice co cn cc,.slice ao an ac,.slice no nn nc,.slice qo qn qc] 27 (0,0)):=(hb.block _ (by omega)).trans ((hg.block _ hs (by simp;omega)).trans h.s)
 have hob:∀j,j≠0→∀k,(.slice co cn cc:Value).ownBlock=some k→¬X j k:=fun j hj k hk hx=>hj (h.dj j 0 k hx (hown k hk))
 refine⟨?_,?_,(((Lst.add isElS hown h2 h3 (fun b hx=>(h.up 0 b hx).2) (hnx 0) hg hx hg2 ho hat).mono isElS (X':=fun b=>X 0 b∨(0=0∧wr.heap.size≤b∧b<w'.heap.size)) fun b hx hl=>hx.imp id fun h9=>⟨rfl,h9,hl⟩).step isElS hset fun k hk hx=>by cases hk;rcases hx with hx |⟨_,hx,_⟩;exact hnp 0 hx;omega),((((h.l1.step isElA hg fun k hk=>by cases hk;exact hnx 1).step isElA hg2 (hob 1 (by decide))).step isElA hset fun k hk=>by cases hk;exact hnp 1).mono isElA fun b hx _=>.inl hx),((((h.l2.step isElC hg fun k hk=>by cases hk;exact hnx 2).step isElC hg2 (hob 2 (by decide))).step isElC hset fun k hk=>by cases hk;exact hnp 2).mono isElC fun b hx _=>.inl hx),((((h.l3.step isElPc hg fun k hk=>by cases hk;exact hnx 3).step isElPc hg2 (hob 3 (by decide))).step isElPc hset fun k hk=>by cases hk;exact hnp 3).mono isElPc fun b hx _=>.inl hx),?_,?_,?_,(hrd.keeps hb (by omega)).keeps hbs (by omega),hall,heq⟩
 ·rw[hbs.block _ (by omega),hb.block _ (by omega),hg.block _ (by have:=lt_of_block h.n;omega) (by simp;omega)];exact h.n
 ·simp[World.setCell,Array.getElem?_modify,hsb]
 ·rintro i1 j1 b (h1 |⟨rfl,h1,h1'⟩) (h4 |⟨rfl,h4,h4'⟩)
  ·exact h.dj _ _ b h1 h4
  ·have:=(h.up _ b h1).2;omega
  ·have:=(h.up _ b h4).2;omega
  ·rfl
 ·rintro i1 b (h1 |⟨rfl,h1,h1'⟩)
  ·have:=h.up _ b h1
   rw[e0];omega
  ·rw[e0];exact⟨by omega,h1'⟩
 ·have:=h.len
  simp
  omega
theorem PgS.add1 {w wr w1 w':World}{rb e pb:Nat}{res:Res Prg}{p:Prg}{ts r:List Tok}{v v':Value}{X:Nat→Nat→Prop}{co:Option Addr}{cn cc:Nat}{ao:Option Addr}{an ac:Nat}{no:Option Addr}{nn nc:Nat}{qo:Option Addr}{qn qc:Nat}{uo:Option Addr}{un uc:Nat}{css:List (List Value)}{xs:List Value}{a:ByteArray×ByteArray}(h:PgS w wr rb e pb res p ts v X co cn cc ao an ac no nn nc qo qn qc)(hpb:w.heap.size<pb)(hrb:rb<w.heap.size)(h2:css.length=p.acts.length)(h3:∀i (h:i<p.acts.length) (h':i<css.length),AcIs wr (fun b=>X 1 b∧some b≠(.slice ao an ac:Value).ownBlock) p.acts[i] css[i])
 (hne:p.acts.length≠10) (hg:wr.grownBy w1 (some rb)) (hx:AcIs w1 (fun b=>wr.heap.size≤b) a xs) (hg2:w1.grownBy w' (.slice ao an ac:Value).ownBlock) (ho:w'.ownsRow (pb+1) 111 2 (.slice uo un uc) (p.acts.length+1) (css.flatten++xs)) (hat:(Value.slice uo un uc).ownBlock=(.slice ao an ac:Value).ownBlock∨(Value.slice uo un uc).ownBlock=some w1.heap.size) (hrd:Rd w1 rb e 0 0 r v') (heq:res=Par.progF e r.length {p with acts:=p.acts++[a]} r):
 PgS w (w'.setCell ⟨pb,1,none⟩ (.slice uo un uc)) rb e pb res {p with acts:=p.acts++[a]} r v' (fun j b=>X j b∨(j=1∧wr.heap.size≤b∧b<w'.heap.size)) co cn cc uo un uc no nn nc qo qn qc:=by
 have hz:=hg.size
 have hz2:=hg2.size
 have hs:=lt_of_block h.s
 have hown:=h.l1.own
 have ho1:∀k,(.slice ao an ac:Value).ownBlock=some k→pb<k:=fun k hk=>(h.up 1 k (hown k hk)).1
 have hnx:∀j,¬X j rb:=fun j hx=>by have:=(h.up j rb hx).1;omega
 have hnp:∀j,¬X j pb:=fun j hx=>by have:=(h.up j pb hx).1;omega
 have hb:Below (pb+1) w1 w':=⟨hg2.os,hg2.tape,hg2.output,hg2.size,fun k hk=>hg2.block k (by omega) (fun hh=>by have:=ho1 k hh.symm;omega)⟩
 have e0:(w'.setCell ⟨pb,1,none⟩ (.slice uo un uc)).heap.size=w'.heap.size:=by simp[World.setCell]
 have hset:w'.grownBy (w'.setCell ⟨pb,1,none⟩ (.slice uo un uc)) (some pb):=grown_set (grown_refl _ _) rfl _
 have hbs:Below pb w' (w'.setCell ⟨pb,1,none⟩ (.slice uo un uc)):=(Below.refl _ _).setCell (by simp) _
 have hall:Fr w.heap.size rb w (w'.setCell ⟨pb,1,none⟩ (.slice uo un uc)):=(h.fr.trans (Fr.of_grown hg (by omega))).trans ((Fr.of_below (hb.mono (by omega))).trans (Fr.of_below (hbs.mono (by omega))))
 have hsb:w'.heap[pb]? =some (.cells #[.slice co cn cc,.slice ao an ac,.slice no nn nc,.slice qo qn qc] 27 (0,0)):=(hb.block _ (by omega)).trans ((hg.block _ hs (by simp;omega)).trans h.s)
 have hob:∀j,j≠1→∀k,(.slice ao an ac:Value).ownBlock=some k→¬X j k:=fun j hj k hk hx=>hj (h.dj j 1 k hx (hown k hk))
 refine⟨?_,?_,((((h.l0.step isElS hg fun k hk=>by cases hk;exact hnx 0).step isElS hg2 (hob 0 (by decide))).step isElS hset fun k hk=>by cases hk;exact hnp 0).mono isElS fun b hx _=>.inl hx),(((Lst.add isElA hown h2 h3 (fun b hx=>(h.up 1 b hx).2) (hnx 1) hg hx hg2 ho hat).mono isElA (X':=fun b=>X 1 b∨(1=1∧wr.heap.size≤b∧b<w'.heap.size)) fun b hx hl=>hx.imp id fun h9=>⟨rfl,h9,hl⟩).step isElA hset fun k hk hx=>by cases hk;rcases hx with hx |⟨_,hx,_⟩;exact hnp 1 hx;omega),((((h.l2.step isElC hg fun k hk=>by cases hk;exact hnx 2).step isElC hg2 (hob 2 (by decide))).step isElC hset fun k hk=>by cases hk;exact hnp 2).mono isElC fun b hx _=>.inl hx),((((h.l3.step isElPc hg fun k hk=>by cases hk;exact hnx 3).step isElPc hg2 (hob 3 (by decide))).step isElPc hset fun k hk=>by cases hk;exact hnp 3).mono isElPc fun b hx _=>.inl hx),?_,?_,?_,(hrd.keeps hb (by omega)).keeps hbs (by omega),hall,heq⟩
 ·rw[hbs.block _ (by omega),hb.block _ (by omega),hg.block _ (by have:=lt_of_block h.n;omega) (by simp;omega)];exact h.n
 ·simp[World.setCell,Array.getElem?_modify,hsb]
 ·rintro i1 j1 b (h1 |⟨rfl,h1,h1'⟩) (h4 |⟨rfl,h4,h4'⟩)
  ·exact h.dj _ _ b h1 h4
  ·have:=(h.up _ b h1).2;omega
  ·have:=(h.up _ b h4).2;omega
  ·rfl
 ·rintro i1 b (h1 |⟨rfl,h1,h1'⟩)
  ·have:=h.up _ b h1
   rw[e0];omega
  ·rw[e0];exact⟨by omega,h1'⟩
 ·have:=h.len
  simp
  omega
theorem PgS.add2 {w wr w1 w':World}{rb e pb:Nat}{res:Res Prg}{p:Prg}{ts r:List Tok}{v v':Value}{X:Nat→Nat→Prop}{co:Option Addr}{cn cc:Nat}{ao:Option Addr}{an ac:Nat}{no:Option Addr}{nn nc:Nat}{qo:Option Addr}{qn qc:Nat}{uo:Option Addr}{un uc:Nat}{css:List (List Value)}{xs:List Value}{a:Chn}(h:PgS w wr rb e pb res p ts v X co cn cc ao an ac no nn nc qo qn qc)(hpb:w.heap.size<pb)(hrb:rb<w.heap.size)(h2:css.length=p.chans.length)(h3:∀i (h:i<p.chans.length) (h':i<css.length),ChIs wr (fun b=>X 2 b∧some b≠(.slice no nn nc:Value).ownBlock) p.chans[i] css[i])
 (hne:p.chans.length≠6) (hg:wr.grownBy w1 (some rb)) (hx:ChIs w1 (fun b=>wr.heap.size≤b) a xs) (hg2:w1.grownBy w' (.slice no nn nc:Value).ownBlock) (ho:w'.ownsRow (pb+1) 54 5 (.slice uo un uc) (p.chans.length+1) (css.flatten++xs)) (hat:(Value.slice uo un uc).ownBlock=(.slice no nn nc:Value).ownBlock∨(Value.slice uo un uc).ownBlock=some w1.heap.size) (hrd:Rd w1 rb e 0 0 r v') (heq:res=Par.progF e r.length {p with chans:=p.chans++[a]} r):
 PgS w (w'.setCell ⟨pb,2,none⟩ (.slice uo un uc)) rb e pb res {p with chans:=p.chans++[a]} r v' (fun j b=>X j b∨(j=2∧wr.heap.size≤b∧b<w'.heap.size)) co cn cc ao an ac uo un uc qo qn qc:=by
 have hz:=hg.size
 have hz2:=hg2.size
 have hs:=lt_of_block h.s
 have hown:=h.l2.own
 have ho1:∀k,(.slice no nn nc:Value).ownBlock=some k→pb<k:=fun k hk=>(h.up 2 k (hown k hk)).1
 have hnx:∀j,¬X j rb:=fun j hx=>by have:=(h.up j rb hx).1;omega
 have hnp:∀j,¬X j pb:=fun j hx=>by have:=(h.up j pb hx).1;omega
 have hb:Below (pb+1) w1 w':=⟨hg2.os,hg2.tape,hg2.output,hg2.size,fun k hk=>hg2.block k (by omega) (fun hh=>by have:=ho1 k hh.symm;omega)⟩
 have e0:(w'.setCell ⟨pb,2,none⟩ (.slice uo un uc)).heap.size=w'.heap.size:=by simp[World.setCell]
 have hset:w'.grownBy (w'.setCell ⟨pb,2,none⟩ (.slice uo un uc)) (some pb):=grown_set (grown_refl _ _) rfl _
 have hbs:Below pb w' (w'.setCell ⟨pb,2,none⟩ (.slice uo un uc)):=(Below.refl _ _).setCell (by simp) _
 have hall:Fr w.heap.size rb w (w'.setCell ⟨pb,2,none⟩ (.slice uo un uc)):=(h.fr.trans (Fr.of_grown hg (by omega))).trans ((Fr.of_below (hb.mono (by omega))).trans (Fr.of_below (hbs.mono (by omega))))
 have hsb:w'.heap[pb]? =some (.cells #[.slice co cn cc,.slice ao an ac,.slice no nn nc,.slice qo qn qc] 27 (0,0)):=(hb.block _ (by omega)).trans ((hg.block _ hs (by simp;omega)).trans h.s)
 have hob:∀j,j≠2→∀k,(.slice no nn nc:Value).ownBlock=some k→¬X j k:=fun j hj k hk hx=>hj (h.dj j 2 k hx (hown k hk))
 refine⟨?_,?_,((((h.l0.step isElS hg fun k hk=>by cases hk;exact hnx 0).step isElS hg2 (hob 0 (by decide))).step isElS hset fun k hk=>by cases hk;exact hnp 0).mono isElS fun b hx _=>.inl hx),((((h.l1.step isElA hg fun k hk=>by cases hk;exact hnx 1).step isElA hg2 (hob 1 (by decide))).step isElA hset fun k hk=>by cases hk;exact hnp 1).mono isElA fun b hx _=>.inl hx),(((Lst.add isElC hown h2 h3 (fun b hx=>(h.up 2 b hx).2) (hnx 2) hg hx hg2 ho hat).mono isElC (X':=fun b=>X 2 b∨(2=2∧wr.heap.size≤b∧b<w'.heap.size)) fun b hx hl=>hx.imp id fun h9=>⟨rfl,h9,hl⟩).step isElC hset fun k hk hx=>by cases hk;rcases hx with hx |⟨_,hx,_⟩;exact hnp 2 hx;omega),((((h.l3.step isElPc hg fun k hk=>by cases hk;exact hnx 3).step isElPc hg2 (hob 3 (by decide))).step isElPc hset fun k hk=>by cases hk;exact hnp 3).mono isElPc fun b hx _=>.inl hx),?_,?_,?_,(hrd.keeps hb (by omega)).keeps hbs (by omega),hall,heq⟩
 ·rw[hbs.block _ (by omega),hb.block _ (by omega),hg.block _ (by have:=lt_of_block h.n;omega) (by simp;omega)];exact h.n
 ·simp[World.setCell,Array.getElem?_modify,hsb]
 ·rintro i1 j1 b (h1 |⟨rfl,h1,h1'⟩) (h4 |⟨rfl,h4,h4'⟩)
  ·exact h.dj _ _ b h1 h4
  ·have:=(h.up _ b h1).2;omega
  ·have:=(h.up _ b h4).2;omega
  ·rfl
 ·rintro i1 b (h1 |⟨rfl,h1,h1'⟩)
  ·have:=h.up _ b h1
   rw[e0];omega
  ·rw[e0];exact⟨by omega,h1'⟩
 ·have:=h.len
  simp
  omega
theorem PgS.add3 {w wr w1 w':World}{rb e pb:Nat}{res:Res Prg}{p:Prg}{ts r:List Tok}{v v':Value}{X:Nat→Nat→Prop}{co:Option Addr}{cn cc:Nat}{ao:Option Addr}{an ac:Nat}{no:Option Addr}{nn nc:Nat}{qo:Option Addr}{qn qc:Nat}{uo:Option Addr}{un uc:Nat}{css:List (List Value)}{xs:List Value}{a:Prc}(h:PgS w wr rb e pb res p ts v X co cn cc ao an ac no nn nc qo qn qc)(hpb:w.heap.size<pb)(hrb:rb<w.heap.size)(h2:css.length=p.procs.length)(h3:∀i (h:i<p.procs.length) (h':i<css.length),PcIs wr (fun b=>X 3 b∧some b≠(.slice qo qn qc:Value).ownBlock) p.procs[i] css[i])
 (hne:p.procs.length≠6) (hg:wr.grownBy w1 (some rb)) (hx:PcIs w1 (fun b=>wr.heap.size≤b) a xs) (hg2:w1.grownBy w' (.slice qo qn qc:Value).ownBlock) (ho:w'.ownsRow (pb+1) 88 9 (.slice uo un uc) (p.procs.length+1) (css.flatten++xs)) (hat:(Value.slice uo un uc).ownBlock=(.slice qo qn qc:Value).ownBlock∨(Value.slice uo un uc).ownBlock=some w1.heap.size) (hrd:Rd w1 rb e 0 0 r v') (heq:res=Par.progF e r.length {p with procs:=p.procs++[a]} r):
 PgS w (w'.setCell ⟨pb,3,none⟩ (.slice uo un uc)) rb e pb res {p with procs:=p.procs++[a]} r v' (fun j b=>X j b∨(j=3∧wr.heap.size≤b∧b<w'.heap.size)) co cn cc ao an ac no nn nc uo un uc:=by
 have hz:=hg.size
 have hz2:=hg2.size
 have hs:=lt_of_block h.s
 have hown:=h.l3.own
 have ho1:∀k,(.slice qo qn qc:Value).ownBlock=some k→pb<k:=fun k hk=>(h.up 3 k (hown k hk)).1
 have hnx:∀j,¬X j rb:=fun j hx=>by have:=(h.up j rb hx).1;omega
 have hnp:∀j,¬X j pb:=fun j hx=>by have:=(h.up j pb hx).1;omega
 have hb:Below (pb+1) w1 w':=⟨hg2.os,hg2.tape,hg2.output,hg2.size,fun k hk=>hg2.block k (by omega) (fun hh=>by have:=ho1 k hh.symm;omega)⟩
 have e0:(w'.setCell ⟨pb,3,none⟩ (.slice uo un uc)).heap.size=w'.heap.size:=by simp[World.setCell]
 have hset:w'.grownBy (w'.setCell ⟨pb,3,none⟩ (.slice uo un uc)) (some pb):=grown_set (grown_refl _ _) rfl _
 have hbs:Below pb w' (w'.setCell ⟨pb,3,none⟩ (.slice uo un uc)):=(Below.refl _ _).setCell (by simp) _
 have hall:Fr w.heap.size rb w (w'.setCell ⟨pb,3,none⟩ (.slice uo un uc)):=(h.fr.trans (Fr.of_grown hg (by omega))).trans ((Fr.of_below (hb.mono (by omega))).trans (Fr.of_below (hbs.mono (by omega))))
 have hsb:w'.heap[pb]? =some (.cells #[.slice co cn cc,.slice ao an ac,.slice no nn nc,.slice qo qn qc] 27 (0,0)):=(hb.block _ (by omega)).trans ((hg.block _ hs (by simp;omega)).trans h.s)
 have hob:∀j,j≠3→∀k,(.slice qo qn qc:Value).ownBlock=some k→¬X j k:=fun j hj k hk hx=>hj (h.dj j 3 k hx (hown k hk))
 refine⟨?_,?_,((((h.l0.step isElS hg fun k hk=>by cases hk;exact hnx 0).step isElS hg2 (hob 0 (by decide))).step isElS hset fun k hk=>by cases hk;exact hnp 0).mono isElS fun b hx _=>.inl hx),((((h.l1.step isElA hg fun k hk=>by cases hk;exact hnx 1).step isElA hg2 (hob 1 (by decide))).step isElA hset fun k hk=>by cases hk;exact hnp 1).mono isElA fun b hx _=>.inl hx),((((h.l2.step isElC hg fun k hk=>by cases hk;exact hnx 2).step isElC hg2 (hob 2 (by decide))).step isElC hset fun k hk=>by cases hk;exact hnp 2).mono isElC fun b hx _=>.inl hx),(((Lst.add isElPc hown h2 h3 (fun b hx=>(h.up 3 b hx).2) (hnx 3) hg hx hg2 ho hat).mono isElPc (X':=fun b=>X 3 b∨(3=3∧wr.heap.size≤b∧b<w'.heap.size)) fun b hx hl=>hx.imp id fun h9=>⟨rfl,h9,hl⟩).step isElPc hset fun k hk hx=>by cases hk;rcases hx with hx |⟨_,hx,_⟩;exact hnp 3 hx;omega),?_,?_,?_,(hrd.keeps hb (by omega)).keeps hbs (by omega),hall,heq⟩
 ·rw[hbs.block _ (by omega),hb.block _ (by omega),hg.block _ (by have:=lt_of_block h.n;omega) (by simp;omega)];exact h.n
 ·simp[World.setCell,Array.getElem?_modify,hsb]
 ·rintro i1 j1 b (h1 |⟨rfl,h1,h1'⟩) (h4 |⟨rfl,h4,h4'⟩)
  ·exact h.dj _ _ b h1 h4
  ·have:=(h.up _ b h1).2;omega
  ·have:=(h.up _ b h4).2;omega
  ·rfl
 ·rintro i1 b (h1 |⟨rfl,h1,h1'⟩)
  ·have:=h.up _ b h1
   rw[e0];omega
  ·rw[e0];exact⟨by omega,h1'⟩
 ·have:=h.len
  simp
  omega
theorem programC {w:World}{rb e:Nat}{ts:List Tok}{v:Value}(hA:AtoiC)(h:Rd w rb e 0 0 ts v):
 Calls Tryz.prog 26 #[.pointer (some ⟨rb,0,none⟩)] w (Post w rb e 0 0 (Par.progR e ts) (VG w.heap.size)):=by
 have hmf:=mkF
 have f2:=fTok2
 obtain⟨res,hres⟩:∃res,res=Par.progR e ts:=⟨_,rfl⟩
 rw[←hres]
 have HA:Hid AtoiC:=hA
 have hlt:=h.lt
 obtain⟨w0,hw0⟩:∃w0,w0=(w.alloc (.cells #[.slice none 0 0,.slice none 0 0,.slice none 0 0,.slice none 0 0] 27)).alloc (.cells #[.slice none 0 0,.slice none 0 0,.slice none 0 0,.slice none 0 0] 27):=⟨_,rfl⟩
 have hb0:Below w.heap.size w w0:=by rw[hw0];exact((Below.refl _ _).alloc (Nat.le_refl _) _).alloc (by simp) _
 have hs0:w0.heap.size=w.heap.size+2:=by rw[hw0];simp
 obtain⟨pb,hpb⟩:∃pb,pb=w.heap.size+1:=⟨_,rfl⟩
 have HS0:Hid (PgS w w0 rb e pb res ⟨[],[],[],[]⟩ ts v (fun _ _=>False) none 0 0 none 0 0 none 0 0 none 0 0):=by
  refine⟨?_,?_,Lst.nil _ _ _ _ _ _,Lst.nil _ _ _ _ _ _,Lst.nil _ _ _ _ _ _,Lst.nil _ _ _ _ _ _,fun _ _ _ h=>h.elim,fun _ _ h=>h.elim,by decide,h.keeps hb0 h.lt,Fr.of_below hb0,hres⟩
  ·rw[hw0];exact heap_past_alloc (heap_at_alloc _ _ _ rfl)
  ·rw[hw0,hpb];exact heap_at_alloc _ _ _ (by simp)
 have hpw:w.heap.size<pb:=by omega
 clear h hres hb0 hA hs0
 go_enter Tryz.func26,Tryz.ntmps26
 go_wp2
 rw[←hw0,←hpb]
 clear hw0 hpb
 go_loopw [] (fun wr=>Hid (∃p ts' v' X co cn cc ao an ac no nn nc qo qn qc,PgS w wr rb e pb res p ts' v' X co cn cc ao an ac no nn nc qo qn qc)) (fun wr=>rLeft rb wr)
 case atStart=>exact⟨_,_,_,_,_,_,_,_,_,_,_,_,_,_,_,_,HS0.out⟩
 case round=>
  clear HS0
  obtain⟨p,ts',v',X,co,cn,cc,ao,an,ac,no,nn,nc,qo,qn,qc,hS⟩:=hrel.out
  have HLF:Hid (rLeft rb wr=ts'.length):=hS.rd.left
  clear hrel
  cases ts' with
  | nil=>
   obtain⟨xo,xc,rfl⟩:=hS.rd.none
   obtain⟨c0,_⟩:=hS.rd.cells
   have hltr:=hS.rd.lt
   obtain⟨⟨b0,b1,b2,b3⟩,hzn⟩:=blk4 hS.n
   obtain⟨⟨x0,x1,x2,x3⟩,_⟩:=blk4 hS.s
   have y0:=hzn 0
   have y1:=hzn 1
   have y2:=hzn 2
   have y3:=hzn 3
   have l9:=lt_of_block hS.n
   have l8:=lt_of_block hS.s
   have HL:Hid (PgS w wr rb e pb res p [] (.slice xo 0 xc) X co cn cc ao an ac no nn nc qo qn qc):=hS
   clear hS hzn
   go_wp2
   obtain⟨wf,hwf⟩:∃wf,wf=(((wr.setCell ⟨w.heap.size,0,none⟩ (.slice co cn cc)).setCell ⟨w.heap.size,1,none⟩ (.slice ao an ac)).setCell ⟨w.heap.size,2,none⟩ (.slice no nn nc)).setCell ⟨w.heap.size,3,none⟩ (.slice qo qn qc):=⟨_,rfl⟩
   have hbf:Below w.heap.size wr wf:=by
    rw[hwf]
    iterate 4 refine Below.setCell ?_ (by simp) _
    exact Below.refl _ _
   have hkf:Keeps (fun b=>pb<b) wr wf:=⟨hbf.size,fun b hb _=>by rw[hwf];iterate 4 rw[Below.heap_setCell _ _ _ _ (by show b≠w.heap.size;omega)]⟩
   have hnf:wf.heap[w.heap.size]? =some (.cells #[.slice co cn cc,.slice ao an ac,.slice no nn nc,.slice qo qn qc] 27 (0,0)):=by rw[hwf];simp[World.setCell,Array.getElem?_modify,HL.out.n]
   rw[←hwf]
   obtain⟨⟨d0,d1,d2,d3⟩,_⟩:=blk4 hnf
   refine bodyPost_ret (v:=.agg #[.slice co cn cc,.slice ao an ac,.slice no nn nc,.slice qo qn qc]) (by simp[results,Tryz.results26,go_sem,d0,d1,d2,d3]) rfl ?_
   have hu:∀i b,X i b→pb+1≤b:=fun i b hx=>(HL.out.up i b hx).1
   have hpg:PgIs wr (fun b=>pb<b) p [.slice co cn cc,.slice ao an ac,.slice no nn nc,.slice qo qn qc]:=⟨_,_,_,_,rfl,(HL.out.l0.ownL isElS (hu 0)).strs,(HL.out.l1.ownL isElA (hu 1)).rows isElA,(HL.out.l2.ownL isElC (hu 2)).rows isElC,(HL.out.l3.ownL isElPc (hu 3)).rows isElPc⟩
   exact⟨(HL.out.fr.trans (Fr.of_below hbf)).grown,.inl ⟨p,[],HL.out.eq,_,_,rfl,⟨_,_,_,_,_,_,_,_,_,_,_,_,rfl,(hpg.keeps hkf).mono fun b hb _=>by omega⟩,HL.out.rd.keeps hbf hlt⟩⟩
  | cons t r0=>
   obtain⟨b',off',c',rfl,_,_,hm',_⟩:=hS.rd.some
   have hlen:=hS.rd.len
   simp only[List.length_cons] at hlen
   obtain⟨c0,_⟩:=hS.rd.cells
   have hltr:=hS.rd.lt
   have HL:Hid (PgS w wr rb e pb res p (t::r0) (.slice (some ⟨b',off',none⟩) (r0.length+1) c') X co cn cc ao an ac no nn nc qo qn qc):=hS
   have HNX:=rNext_any hS.rd
   obtain⟨tx,htx⟩:∃tx,tx=t.2.2:=⟨_,rfl⟩
   rw[show nx (t::r0)=t from rfl,←htx] at HNX
   have HTX:Hid (tx=t.2.2):=htx
   unfold maxLen at hm'
   clear hS htx
   go_wp2_with fail
   refine HNX.mono ?_
   rintro x w3 ⟨rfl,hb3⟩
   have HL3:Hid (PgS w w3 rb e pb res p (t::r0) (.slice (some ⟨b',off',none⟩) (r0.length+1) c') X co cn cc ao an ac no nn nc qo qn qc):=HL.out.later hb3 (by omega)
   have HR3:Hid (Rd w3 rb e 0 0 (t::r0) (.slice (some ⟨b',off',none⟩) (r0.length+1) c')):=HL3.out.rd
   have HEQ:Hid (res=(Par.partR e p (t::r0)).bind fun q s=>Par.progF e s.length q s):=by show _=_;rw[HL3.out.eq];exact Par.prog_step e p
   have hlt3:=HR3.out.lt
   clear hb3 HNX c0 hltr HL
   by_cases n0:tx=Par.wChief
   ·have Y0:Hid (tx=Par.wChief):=n0
    have n0b:((ba tx).toList==[99,104,105,101,102])=true:=by rw[ba_list,n0];decide
    clear n0
    have HE1:Hid (res=(Par.moreR e 6 p.chiefs (Par.chiefR e) (t::r0)).bind fun l r=>Par.progF e r.length {p with chiefs:=l} r):=by
     show _=_
     rw[HEQ.out]
     unfold Par.partR
     rw[if_pos (show(nx (t::r0)).2.2=Par.wChief by show t.2.2=_;rw[←HTX.out];exact Y0.out)]
     rw[Par.bind_bind]
     rfl
    have HPE:Hid (∀a r,Par.chiefR e (t::r0)=.ok a r→p.chiefs.length≠6→r.length<(t::r0).length):=by
     intro a r h9 h8
     refine Par.part_eats e p (List.cons_ne_nil _ _) (q:={p with chiefs:=p.chiefs++[a]}) ?_
     unfold Par.partR
     rw[if_pos (show(nx (t::r0)).2.2=Par.wChief by show t.2.2=_;rw[←HTX.out];exact Y0.out)]
     unfold Par.moreR
     rw[if_neg h8,h9]
     rfl
    obtain⟨css,o1,o2,o3⟩:=HL3.out.l0.ex
    have O3:Hid (∀i (h:i<p.chiefs.length) (h':i<css.length),ElS w3 (fun b=>X 0 b∧some b≠(.slice co cn cc:Value).ownBlock) p.chiefs[i] css[i]):=o3
    have O2:Hid (css.length=p.chiefs.length):=o2
    have hle:=HL3.out.len
    have hbz:pb+1≤w3.heap.size:=by have:=lt_of_block HL3.out.s;omega
    have HMO:=moreWS HR3.out o1 (by omega) hbz 6 (by omega) (by omega) 39 #[.pointer (some ⟨rb,0,none⟩)] #[] (enters_of Tryz.func39 (by kernel_rfl) rfl) (Par.chiefR e (t::r0)) (chiefC HR3.out)
    obtain⟨⟨x0,x1,x2,x3⟩,_⟩:=blk4 HL3.out.s
    have l8:=lt_of_block HL3.out.s
    clear o1 o2 o3 hle
    go_wp2_with fail
    refine HMO.mono ?_
    rintro x w4 (⟨hf,rfl,hw4⟩|⟨hf,⟨c,q,hpt,rfl,hg,r,v5,hr⟩|⟨a,r,u,v5,xs,w1,hpt,rfl,hg,hx,hg2,hown,hat,hrd⟩⟩)
    ·have hw4s:=hw4.symm
     subst hw4s
     refine⟨rfl,HL3.out.fr.grown,.inr ⟨_,_,?_,rfl,_,_,HR3.out⟩⟩
     rw[HE1.out]
     unfold Par.moreR
     rw[if_pos hf]
     rfl
    ·refine⟨rfl,(HL3.out.fr.trans (Fr.of_grown hg (by omega))).grown,.inr ⟨c,q,?_,rfl,_,_,hr⟩⟩
     rw[HE1.out]
     unfold Par.moreR
     rw[if_neg hf,hpt]
     rfl
    obtain⟨uo,uc,hu⟩:=own_slice hown
    obtain⟨un,hun⟩:∃un,p.chiefs.length+1=un:=⟨_,rfl⟩
    rw[hun] at hu
    subst hu
    have heq:res=Par.progF e r.length {p with chiefs:=p.chiefs++[a]} r:=by
     rw[HE1.out]
     unfold Par.moreR
     rw[if_neg hf,hpt]
     rfl
    have hS5:=HL3.out.add0 hpw hlt O2.out O3.out hf hg hx hg2 hown hat hrd heq
    have HLT:Hid (r.length<(t::r0).length):=HPE.out a r hpt hf
    have hs4:w4.heap[pb]? =some (.cells #[.slice co cn cc,.slice ao an ac,.slice no nn nc,.slice qo qn qc] 27 (0,0)):=by
     have hown':=HL3.out.l0.own
     rw[hg2.block _ (by have:=hg.size;omega) (fun hh=>by have:=(HL3.out.up 0 pb (hown' pb hh.symm)).1;omega),hg.block _ l8 (by simp;omega)];exact HL3.out.s
    obtain⟨⟨x0,x1,x2,x3⟩,hz⟩:=blk4 hs4
    have hz0:=hz 0
    have l4:=lt_of_block hs4
    obtain⟨w5,hw5⟩:∃w5,w5=w4.setCell ⟨pb,0,none⟩ (.slice uo un uc):=⟨_,rfl⟩
    rw[←hw5] at hS5
    have HS5:Hid (∃p ts' v' X co cn cc ao an ac no nn nc qo qn qc,PgS w w5 rb e pb res p ts' v' X co cn cc ao an ac no nn nc qo qn qc):=⟨_,_,_,_,_,_,_,_,_,_,_,_,_,_,_,_,hS5⟩
    have HM5:Hid (rLeft rb w5=r.length):=hS5.rd.left
    have HW5:Hid (w5=w4.setCell ⟨pb,0,none⟩ (.slice uo un uc)):=hw5
    clear hS5 hs4 hz hun heq hg hx hg2 hown hat hrd hpt hf hw5 HMO
    go_wp2
    rw[←HW5.out]
    go_roundw
    case rel=>exact HS5.out
    case measure=>rw[HM5.out,HLF.out];exact HLT.out
   have N0:Hid (¬tx=Par.wChief):=n0
   have n0b:((ba tx).toList==[99,104,105,101,102])=false:=by rw[ba_list];exact beq_eq_false_iff_ne.mpr n0
   by_cases n1:tx=Par.wActs
   ·have Y1:Hid (tx=Par.wActs):=n1
    have n1b:((ba tx).toList==[97,99,116,115])=true:=by rw[ba_list,n1];decide
    clear n0 n1
    have HE1:Hid (res=(Par.moreR e 10 p.acts (Par.actsR e) (t::r0)).bind fun l r=>Par.progF e r.length {p with acts:=l} r):=by
     show _=_
     rw[HEQ.out]
     unfold Par.partR
     rw[if_neg (show ¬(nx (t::r0)).2.2=Par.wChief by show ¬t.2.2=_;rw[←HTX.out];exact N0.out)]
     rw[if_pos (show(nx (t::r0)).2.2=Par.wActs by show t.2.2=_;rw[←HTX.out];exact Y1.out)]
     rw[Par.bind_bind]
     rfl
    have HPE:Hid (∀a r,Par.actsR e (t::r0)=.ok a r→p.acts.length≠10→r.length<(t::r0).length):=by
     intro a r h9 h8
     refine Par.part_eats e p (List.cons_ne_nil _ _) (q:={p with acts:=p.acts++[a]}) ?_
     unfold Par.partR
     rw[if_neg (show ¬(nx (t::r0)).2.2=Par.wChief by show ¬t.2.2=_;rw[←HTX.out];exact N0.out)]
     rw[if_pos (show(nx (t::r0)).2.2=Par.wActs by show t.2.2=_;rw[←HTX.out];exact Y1.out)]
     unfold Par.moreR
     rw[if_neg h8,h9]
     rfl
    obtain⟨css,o1,o2,o3⟩:=HL3.out.l1.ex
    have O3:Hid (∀i (h:i<p.acts.length) (h':i<css.length),AcIs w3 (fun b=>X 1 b∧some b≠(.slice ao an ac:Value).ownBlock) p.acts[i] css[i]):=o3
    have O2:Hid (css.length=p.acts.length):=o2
    have hle:=HL3.out.len
    have hbz:pb+1≤w3.heap.size:=by have:=lt_of_block HL3.out.s;omega
    have HMO:=moreWA HR3.out o1 (by omega) hbz 10 (by omega) (by omega) 41 #[.pointer (some ⟨rb,0,none⟩)] #[] (enters_of Tryz.func41 (by kernel_rfl) rfl) (Par.actsR e (t::r0)) (actsC HR3.out)
    obtain⟨⟨x0,x1,x2,x3⟩,_⟩:=blk4 HL3.out.s
    have l8:=lt_of_block HL3.out.s
    clear o1 o2 o3 hle
    go_wp2_with fail
    refine HMO.mono ?_
    rintro x w4 (⟨hf,rfl,hw4⟩|⟨hf,⟨c,q,hpt,rfl,hg,r,v5,hr⟩|⟨a,r,u,v5,xs,w1,hpt,rfl,hg,hx,hg2,hown,hat,hrd⟩⟩)
    ·have hw4s:=hw4.symm
     subst hw4s
     refine⟨rfl,HL3.out.fr.grown,.inr ⟨_,_,?_,rfl,_,_,HR3.out⟩⟩
     rw[HE1.out]
     unfold Par.moreR
     rw[if_pos hf]
     rfl
    ·refine⟨rfl,(HL3.out.fr.trans (Fr.of_grown hg (by omega))).grown,.inr ⟨c,q,?_,rfl,_,_,hr⟩⟩
     rw[HE1.out]
     unfold Par.moreR
     rw[if_neg hf,hpt]
     rfl
    obtain⟨uo,uc,hu⟩:=own_slice hown
    obtain⟨un,hun⟩:∃un,p.acts.length+1=un:=⟨_,rfl⟩
    rw[hun] at hu
    subst hu
    have heq:res=Par.progF e r.length {p with acts:=p.acts++[a]} r:=by
     rw[HE1.out]
     unfold Par.moreR
     rw[if_neg hf,hpt]
     rfl
    have hS5:=HL3.out.add1 hpw hlt O2.out O3.out hf hg hx hg2 hown hat hrd heq
    have HLT:Hid (r.length<(t::r0).length):=HPE.out a r hpt hf
    have hs4:w4.heap[pb]? =some (.cells #[.slice co cn cc,.slice ao an ac,.slice no nn nc,.slice qo qn qc] 27 (0,0)):=by
     have hown':=HL3.out.l1.own
     rw[hg2.block _ (by have:=hg.size;omega) (fun hh=>by have:=(HL3.out.up 1 pb (hown' pb hh.symm)).1;omega),hg.block _ l8 (by simp;omega)];exact HL3.out.s
    obtain⟨⟨x0,x1,x2,x3⟩,hz⟩:=blk4 hs4
    have hz1:=hz 1
    have l4:=lt_of_block hs4
    obtain⟨w5,hw5⟩:∃w5,w5=w4.setCell ⟨pb,1,none⟩ (.slice uo un uc):=⟨_,rfl⟩
    rw[←hw5] at hS5
    have HS5:Hid (∃p ts' v' X co cn cc ao an ac no nn nc qo qn qc,PgS w w5 rb e pb res p ts' v' X co cn cc ao an ac no nn nc qo qn qc):=⟨_,_,_,_,_,_,_,_,_,_,_,_,_,_,_,_,hS5⟩
    have HM5:Hid (rLeft rb w5=r.length):=hS5.rd.left
    have HW5:Hid (w5=w4.setCell ⟨pb,1,none⟩ (.slice uo un uc)):=hw5
    clear hS5 hs4 hz hun heq hg hx hg2 hown hat hrd hpt hf hw5 HMO
    go_wp2
    rw[←HW5.out]
    go_roundw
    case rel=>exact HS5.out
    case measure=>rw[HM5.out,HLF.out];exact HLT.out
   have N1:Hid (¬tx=Par.wActs):=n1
   have n1b:((ba tx).toList==[97,99,116,115])=false:=by rw[ba_list];exact beq_eq_false_iff_ne.mpr n1
   by_cases n2:tx=Par.wIn
   ·have YO:Hid (tx=Par.wIn∨tx=Par.wOut):=.inl n2
    have n2b:((ba tx).toList==[105,110])=true:=by rw[ba_list,n2];decide
    clear n0 n1 n2
    have HE1:Hid (res=(Par.moreR e 6 p.chans (Par.chanR e) (t::r0)).bind fun l r=>Par.progF e r.length {p with chans:=l} r):=by
     show _=_
     rw[HEQ.out]
     unfold Par.partR
     rw[if_neg (show ¬(nx (t::r0)).2.2=Par.wChief by show ¬t.2.2=_;rw[←HTX.out];exact N0.out)]
     rw[if_neg (show ¬(nx (t::r0)).2.2=Par.wActs by show ¬t.2.2=_;rw[←HTX.out];exact N1.out)]
     rw[if_pos (show(nx (t::r0)).2.2=Par.wIn∨(nx (t::r0)).2.2=Par.wOut by show t.2.2=_∨t.2.2=_;rw[←HTX.out];exact YO.out)]
     rw[Par.bind_bind]
     rfl
    have HPE:Hid (∀a r,Par.chanR e (t::r0)=.ok a r→p.chans.length≠6→r.length<(t::r0).length):=by
     intro a r h9 h8
     refine Par.part_eats e p (List.cons_ne_nil _ _) (q:={p with chans:=p.chans++[a]}) ?_
     unfold Par.partR
     rw[if_neg (show ¬(nx (t::r0)).2.2=Par.wChief by show ¬t.2.2=_;rw[←HTX.out];exact N0.out)]
     rw[if_neg (show ¬(nx (t::r0)).2.2=Par.wActs by show ¬t.2.2=_;rw[←HTX.out];exact N1.out)]
     rw[if_pos (show(nx (t::r0)).2.2=Par.wIn∨(nx (t::r0)).2.2=Par.wOut by show t.2.2=_∨t.2.2=_;rw[←HTX.out];exact YO.out)]
     unfold Par.moreR
     rw[if_neg h8,h9]
     rfl
    obtain⟨css,o1,o2,o3⟩:=HL3.out.l2.ex
    have O3:Hid (∀i (h:i<p.chans.length) (h':i<css.length),ChIs w3 (fun b=>X 2 b∧some b≠(.slice no nn nc:Value).ownBlock) p.chans[i] css[i]):=o3
    have O2:Hid (css.length=p.chans.length):=o2
    have hle:=HL3.out.len
    have hbz:pb+1≤w3.heap.size:=by have:=lt_of_block HL3.out.s;omega
    have HMO:=moreWC HR3.out o1 (by omega) hbz 6 (by omega) (by omega) 43 #[.pointer (some ⟨rb,0,none⟩)] #[] (enters_of Tryz.func43 (by kernel_rfl) rfl) (Par.chanR e (t::r0)) (chanC HR3.out)
    obtain⟨⟨x0,x1,x2,x3⟩,_⟩:=blk4 HL3.out.s
    have l8:=lt_of_block HL3.out.s
    clear o1 o2 o3 hle
    go_wp2_with fail
    refine HMO.mono ?_
    rintro x w4 (⟨hf,rfl,hw4⟩|⟨hf,⟨c,q,hpt,rfl,hg,r,v5,hr⟩|⟨a,r,u,v5,xs,w1,hpt,rfl,hg,hx,hg2,hown,hat,hrd⟩⟩)
    ·have hw4s:=hw4.symm
     subst hw4s
     refine⟨rfl,HL3.out.fr.grown,.inr ⟨_,_,?_,rfl,_,_,HR3.out⟩⟩
     rw[HE1.out]
     unfold Par.moreR
     rw[if_pos hf]
     rfl
    ·refine⟨rfl,(HL3.out.fr.trans (Fr.of_grown hg (by omega))).grown,.inr ⟨c,q,?_,rfl,_,_,hr⟩⟩
     rw[HE1.out]
     unfold Par.moreR
     rw[if_neg hf,hpt]
     rfl
    obtain⟨uo,uc,hu⟩:=own_slice hown
    obtain⟨un,hun⟩:∃un,p.chans.length+1=un:=⟨_,rfl⟩
    rw[hun] at hu
    subst hu
    have heq:res=Par.progF e r.length {p with chans:=p.chans++[a]} r:=by
     rw[HE1.out]
     unfold Par.moreR
     rw[if_neg hf,hpt]
     rfl
    have hS5:=HL3.out.add2 hpw hlt O2.out O3.out hf hg hx hg2 hown hat hrd heq
    have HLT:Hid (r.length<(t::r0).length):=HPE.out a r hpt hf
    have hs4:w4.heap[pb]? =some (.cells #[.slice co cn cc,.slice ao an ac,.slice no nn nc,.slice qo qn qc] 27 (0,0)):=by
     have hown':=HL3.out.l2.own
     rw[hg2.block _ (by have:=hg.size;omega) (fun hh=>by have:=(HL3.out.up 2 pb (hown' pb hh.symm)).1;omega),hg.block _ l8 (by simp;omega)];exact HL3.out.s
    obtain⟨⟨x0,x1,x2,x3⟩,hz⟩:=blk4 hs4
    have hz2:=hz 2
    have l4:=lt_of_block hs4
    obtain⟨w5,hw5⟩:∃w5,w5=w4.setCell ⟨pb,2,none⟩ (.slice uo un uc):=⟨_,rfl⟩
    rw[←hw5] at hS5
    have HS5:Hid (∃p ts' v' X co cn cc ao an ac no nn nc qo qn qc,PgS w w5 rb e pb res p ts' v' X co cn cc ao an ac no nn nc qo qn qc):=⟨_,_,_,_,_,_,_,_,_,_,_,_,_,_,_,_,hS5⟩
    have HM5:Hid (rLeft rb w5=r.length):=hS5.rd.left
    have HW5:Hid (w5=w4.setCell ⟨pb,2,none⟩ (.slice uo un uc)):=hw5
    clear hS5 hs4 hz hun heq hg hx hg2 hown hat hrd hpt hf hw5 HMO
    go_wp2
    rw[←HW5.out]
    go_roundw
    case rel=>exact HS5.out
    case measure=>rw[HM5.out,HLF.out];exact HLT.out
   have N2:Hid (¬tx=Par.wIn):=n2
   have n2b:((ba tx).toList==[105,110])=false:=by rw[ba_list];exact beq_eq_false_iff_ne.mpr n2
   by_cases n3:tx=Par.wOut
   ·have YO:Hid (tx=Par.wIn∨tx=Par.wOut):=.inr n3
    have n3b:((ba tx).toList==[111,117,116])=true:=by rw[ba_list,n3];decide
    clear n0 n1 n2 n3
    have HE1:Hid (res=(Par.moreR e 6 p.chans (Par.chanR e) (t::r0)).bind fun l r=>Par.progF e r.length {p with chans:=l} r):=by
     show _=_
     rw[HEQ.out]
     unfold Par.partR
     rw[if_neg (show ¬(nx (t::r0)).2.2=Par.wChief by show ¬t.2.2=_;rw[←HTX.out];exact N0.out)]
     rw[if_neg (show ¬(nx (t::r0)).2.2=Par.wActs by show ¬t.2.2=_;rw[←HTX.out];exact N1.out)]
     rw[if_pos (show(nx (t::r0)).2.2=Par.wIn∨(nx (t::r0)).2.2=Par.wOut by show t.2.2=_∨t.2.2=_;rw[←HTX.out];exact YO.out)]
     rw[Par.bind_bind]
     rfl
    have HPE:Hid (∀a r,Par.chanR e (t::r0)=.ok a r→p.chans.length≠6→r.length<(t::r0).length):=by
     intro a r h9 h8
     refine Par.part_eats e p (List.cons_ne_nil _ _) (q:={p with chans:=p.chans++[a]}) ?_
     unfold Par.partR
     rw[if_neg (show ¬(nx (t::r0)).2.2=Par.wChief by show ¬t.2.2=_;rw[←HTX.out];exact N0.out)]
     rw[if_neg (show ¬(nx (t::r0)).2.2=Par.wActs by show ¬t.2.2=_;rw[←HTX.out];exact N1.out)]
     rw[if_pos (show(nx (t::r0)).2.2=Par.wIn∨(nx (t::r0)).2.2=Par.wOut by show t.2.2=_∨t.2.2=_;rw[←HTX.out];exact YO.out)]
     unfold Par.moreR
     rw[if_neg h8,h9]
     rfl
    obtain⟨css,o1,o2,o3⟩:=HL3.out.l2.ex
    have O3:Hid (∀i (h:i<p.chans.length) (h':i<css.length),ChIs w3 (fun b=>X 2 b∧some b≠(.slice no nn nc:Value).ownBlock) p.chans[i] css[i]):=o3
    have O2:Hid (css.length=p.chans.length):=o2
    have hle:=HL3.out.len
    have hbz:pb+1≤w3.heap.size:=by have:=lt_of_block HL3.out.s;omega
    have HMO:=moreWC HR3.out o1 (by omega) hbz 6 (by omega) (by omega) 43 #[.pointer (some ⟨rb,0,none⟩)] #[] (enters_of Tryz.func43 (by kernel_rfl) rfl) (Par.chanR e (t::r0)) (chanC HR3.out)
    obtain⟨⟨x0,x1,x2,x3⟩,_⟩:=blk4 HL3.out.s
    have l8:=lt_of_block HL3.out.s
    clear o1 o2 o3 hle
    go_wp2_with fail
    refine HMO.mono ?_
    rintro x w4 (⟨hf,rfl,hw4⟩|⟨hf,⟨c,q,hpt,rfl,hg,r,v5,hr⟩|⟨a,r,u,v5,xs,w1,hpt,rfl,hg,hx,hg2,hown,hat,hrd⟩⟩)
    ·have hw4s:=hw4.symm
     subst hw4s
     refine⟨rfl,HL3.out.fr.grown,.inr ⟨_,_,?_,rfl,_,_,HR3.out⟩⟩
     rw[HE1.out]
     unfold Par.moreR
     rw[if_pos hf]
     rfl
    ·refine⟨rfl,(HL3.out.fr.trans (Fr.of_grown hg (by omega))).grown,.inr ⟨c,q,?_,rfl,_,_,hr⟩⟩
     rw[HE1.out]
     unfold Par.moreR
     rw[if_neg hf,hpt]
     rfl
    obtain⟨uo,uc,hu⟩:=own_slice hown
    obtain⟨un,hun⟩:∃un,p.chans.length+1=un:=⟨_,rfl⟩
    rw[hun] at hu
    subst hu
    have heq:res=Par.progF e r.length {p with chans:=p.chans++[a]} r:=by
     rw[HE1.out]
     unfold Par.moreR
     rw[if_neg hf,hpt]
     rfl
    have hS5:=HL3.out.add2 hpw hlt O2.out O3.out hf hg hx hg2 hown hat hrd heq
    have HLT:Hid (r.length<(t::r0).length):=HPE.out a r hpt hf
    have hs4:w4.heap[pb]? =some (.cells #[.slice co cn cc,.slice ao an ac,.slice no nn nc,.slice qo qn qc] 27 (0,0)):=by
     have hown':=HL3.out.l2.own
     rw[hg2.block _ (by have:=hg.size;omega) (fun hh=>by have:=(HL3.out.up 2 pb (hown' pb hh.symm)).1;omega),hg.block _ l8 (by simp;omega)];exact HL3.out.s
    obtain⟨⟨x0,x1,x2,x3⟩,hz⟩:=blk4 hs4
    have hz2:=hz 2
    have l4:=lt_of_block hs4
    obtain⟨w5,hw5⟩:∃w5,w5=w4.setCell ⟨pb,2,none⟩ (.slice uo un uc):=⟨_,rfl⟩
    rw[←hw5] at hS5
    have HS5:Hid (∃p ts' v' X co cn cc ao an ac no nn nc qo qn qc,PgS w w5 rb e pb res p ts' v' X co cn cc ao an ac no nn nc qo qn qc):=⟨_,_,_,_,_,_,_,_,_,_,_,_,_,_,_,_,hS5⟩
    have HM5:Hid (rLeft rb w5=r.length):=hS5.rd.left
    have HW5:Hid (w5=w4.setCell ⟨pb,2,none⟩ (.slice uo un uc)):=hw5
    clear hS5 hs4 hz hun heq hg hx hg2 hown hat hrd hpt hf hw5 HMO
    go_wp2
    rw[←HW5.out]
    go_roundw
    case rel=>exact HS5.out
    case measure=>rw[HM5.out,HLF.out];exact HLT.out
   have N3:Hid (¬tx=Par.wOut):=n3
   have n3b:((ba tx).toList==[111,117,116])=false:=by rw[ba_list];exact beq_eq_false_iff_ne.mpr n3
   by_cases n4:tx=Par.wProc
   ·have Y4:Hid (tx=Par.wProc):=n4
    have n4b:((ba tx).toList==[112,114,111,99])=true:=by rw[ba_list,n4];decide
    clear n0 n1 n2 n3 n4
    have HE1:Hid (res=(Par.moreR e 6 p.procs (Par.procR e) (t::r0)).bind fun l r=>Par.progF e r.length {p with procs:=l} r):=by
     show _=_
     rw[HEQ.out]
     unfold Par.partR
     rw[if_neg (show ¬(nx (t::r0)).2.2=Par.wChief by show ¬t.2.2=_;rw[←HTX.out];exact N0.out)]
     rw[if_neg (show ¬(nx (t::r0)).2.2=Par.wActs by show ¬t.2.2=_;rw[←HTX.out];exact N1.out)]
     rw[if_neg (show ¬((nx (t::r0)).2.2=Par.wIn∨(nx (t::r0)).2.2=Par.wOut) by show ¬(t.2.2=_∨t.2.2=_);rw[←HTX.out];exact fun h=>h.elim N2.out N3.out)]
     rw[if_pos (show(nx (t::r0)).2.2=Par.wProc by show t.2.2=_;rw[←HTX.out];exact Y4.out)]
     rw[Par.bind_bind]
     rfl
    have HPE:Hid (∀a r,Par.procR e (t::r0)=.ok a r→p.procs.length≠6→r.length<(t::r0).length):=by
     intro a r h9 h8
     refine Par.part_eats e p (List.cons_ne_nil _ _) (q:={p with procs:=p.procs++[a]}) ?_
     unfold Par.partR
     rw[if_neg (show ¬(nx (t::r0)).2.2=Par.wChief by show ¬t.2.2=_;rw[←HTX.out];exact N0.out)]
     rw[if_neg (show ¬(nx (t::r0)).2.2=Par.wActs by show ¬t.2.2=_;rw[←HTX.out];exact N1.out)]
     rw[if_neg (show ¬((nx (t::r0)).2.2=Par.wIn∨(nx (t::r0)).2.2=Par.wOut) by show ¬(t.2.2=_∨t.2.2=_);rw[←HTX.out];exact fun h=>h.elim N2.out N3.out)]
     rw[if_pos (show(nx (t::r0)).2.2=Par.wProc by show t.2.2=_;rw[←HTX.out];exact Y4.out)]
     unfold Par.moreR
     rw[if_neg h8,h9]
     rfl
    obtain⟨css,o1,o2,o3⟩:=HL3.out.l3.ex
    have O3:Hid (∀i (h:i<p.procs.length) (h':i<css.length),PcIs w3 (fun b=>X 3 b∧some b≠(.slice qo qn qc:Value).ownBlock) p.procs[i] css[i]):=o3
    have O2:Hid (css.length=p.procs.length):=o2
    have hle:=HL3.out.len
    have hbz:pb+1≤w3.heap.size:=by have:=lt_of_block HL3.out.s;omega
    have HMO:=moreWQ HR3.out o1 (by omega) hbz 6 (by omega) (by omega) 45 #[.pointer (some ⟨rb,0,none⟩)] #[] (enters_of Tryz.func45 (by kernel_rfl) rfl) (Par.procR e (t::r0)) (procC HA.out HR3.out)
    obtain⟨⟨x0,x1,x2,x3⟩,_⟩:=blk4 HL3.out.s
    have l8:=lt_of_block HL3.out.s
    clear o1 o2 o3 hle
    go_wp2_with fail
    refine HMO.mono ?_
    rintro x w4 (⟨hf,rfl,hw4⟩|⟨hf,⟨c,q,hpt,rfl,hg,r,v5,hr⟩|⟨a,r,u,v5,xs,w1,hpt,rfl,hg,hx,hg2,hown,hat,hrd⟩⟩)
    ·have hw4s:=hw4.symm
     subst hw4s
     refine⟨rfl,HL3.out.fr.grown,.inr ⟨_,_,?_,rfl,_,_,HR3.out⟩⟩
     rw[HE1.out]
     unfold Par.moreR
     rw[if_pos hf]
     rfl
    ·refine⟨rfl,(HL3.out.fr.trans (Fr.of_grown hg (by omega))).grown,.inr ⟨c,q,?_,rfl,_,_,hr⟩⟩
     rw[HE1.out]
     unfold Par.moreR
     rw[if_neg hf,hpt]
     rfl
    obtain⟨uo,uc,hu⟩:=own_slice hown
    obtain⟨un,hun⟩:∃un,p.procs.length+1=un:=⟨_,rfl⟩
    rw[hun] at hu
    subst hu
    have heq:res=Par.progF e r.length {p with procs:=p.procs++[a]} r:=by
     rw[HE1.out]
     unfold Par.moreR
     rw[if_neg hf,hpt]
     rfl
    have hS5:=HL3.out.add3 hpw hlt O2.out O3.out hf hg hx hg2 hown hat hrd heq
    have HLT:Hid (r.length<(t::r0).length):=HPE.out a r hpt hf
    have hs4:w4.heap[pb]? =some (.cells #[.slice co cn cc,.slice ao an ac,.slice no nn nc,.slice qo qn qc] 27 (0,0)):=by
     have hown':=HL3.out.l3.own
     rw[hg2.block _ (by have:=hg.size;omega) (fun hh=>by have:=(HL3.out.up 3 pb (hown' pb hh.symm)).1;omega),hg.block _ l8 (by simp;omega)];exact HL3.out.s
    obtain⟨⟨x0,x1,x2,x3⟩,hz⟩:=blk4 hs4
    have hz3:=hz 3
    have l4:=lt_of_block hs4
    obtain⟨w5,hw5⟩:∃w5,w5=w4.setCell ⟨pb,3,none⟩ (.slice uo un uc):=⟨_,rfl⟩
    rw[←hw5] at hS5
    have HS5:Hid (∃p ts' v' X co cn cc ao an ac no nn nc qo qn qc,PgS w w5 rb e pb res p ts' v' X co cn cc ao an ac no nn nc qo qn qc):=⟨_,_,_,_,_,_,_,_,_,_,_,_,_,_,_,_,hS5⟩
    have HM5:Hid (rLeft rb w5=r.length):=hS5.rd.left
    have HW5:Hid (w5=w4.setCell ⟨pb,3,none⟩ (.slice uo un uc)):=hw5
    clear hS5 hs4 hz hun heq hg hx hg2 hown hat hrd hpt hf hw5 HMO
    go_wp2
    rw[←HW5.out]
    go_roundw
    case rel=>exact HS5.out
    case measure=>rw[HM5.out,HLF.out];exact HLT.out
   have N4:Hid (¬tx=Par.wProc):=n4
   have n4b:((ba tx).toList==[112,114,111,99])=false:=by rw[ba_list];exact beq_eq_false_iff_ne.mpr n4
   have HNO:Hid (res=.no 1 (atP e (t::r0))):=by
    show _=_
    rw[HEQ.out]
    unfold Par.partR
    rw[if_neg (show ¬(nx (t::r0)).2.2=Par.wChief by show ¬t.2.2=_;rw[←HTX.out];exact N0.out)]
    rw[if_neg (show ¬(nx (t::r0)).2.2=Par.wActs by show ¬t.2.2=_;rw[←HTX.out];exact N1.out)]
    rw[if_neg (show ¬((nx (t::r0)).2.2=Par.wIn∨(nx (t::r0)).2.2=Par.wOut) by show ¬(t.2.2=_∨t.2.2=_);rw[←HTX.out];exact fun h=>h.elim N2.out N3.out)]
    rw[if_neg (show ¬(nx (t::r0)).2.2=Par.wProc by show ¬t.2.2=_;rw[←HTX.out];exact N4.out)]
    rfl
   clear n0 n1 n2 n3 n4
   go_wp2_with fail
   refine(rGive_any _ HR3.out).mono ?_
   rintro x w4 ⟨rfl,hw4⟩
   have hw4s:=hw4.symm
   subst hw4s
   exact⟨rfl,HL3.out.fr.grown,.inr ⟨_,_,HNO.out,rfl,_,_,HR3.out⟩⟩
open Par (Tok Po Tr nx atP isT ba Res)
theorem catchG_idle (p:Addr)(w:World):
 CallsD Tryz.prog 35 #[.pointer (some p)] .returning w fun x u' w'=>x=.returned (.tuple #[])∧u'=.returning∧w'=w:=by
 refine callsD_of_wpS Tryz.func35 rfl fun c₀ cs hu=> ?_
 apply wpS_seq
 apply wpS_region
 simp[wpOpsS,go_sem,recoverD,hu,Tryz.ntmps35,Exit.thenS]
 refine wpS_of_wp ?_
 show Code.wp _ _ _ {tmps:=#[.pointer (some p),.nilIface,undef,undef,.nilIface,undef,undef,undef,undef,undef,undef,undef,undef,undef,undef,undef],defers:=[]} w
 go_wp2
 cases c₀
 simp_all [bodyPostS,results,Tryz.results35]
theorem catchG_stop (fb:Nat)(c:Int)(q:Nat)(w:World){y0 y1:Int}(hf:w.heap[fb]? =some (.cells #[.int .i64 y0,.int .i64 y1] 45 (0,0))):
 CallsD Tryz.prog 35 #[.pointer (some ⟨fb,0,none⟩)] (.panicking [{v:=stopV c q,recovered:=false}]) w fun x u' w'=>x=.returned (.tuple #[])∧u'=.panicking [{v:=stopV c q,recovered:=true}]∧w'.heap[fb]? =some (.cells #[.int .i64 c,.int .i64 (q:Int)] 45 (0,0))∧w.grownBy w' (some fb):=by
 refine callsD_of_wpS Tryz.func35 rfl fun c₀ cs hu=> ?_
 apply wpS_seq
 apply wpS_region
 simp[wpOpsS,go_sem,recoverD,hu,Tryz.ntmps35,Exit.thenS]
 have hlf:=lt_of_block hf
 obtain⟨⟨e0,e1⟩,g0,g1⟩:(w.cell? ⟨fb,0,none⟩=some (.int .i64 y0)∧w.cell? ⟨fb,1,none⟩=some (.int .i64 y1))∧w.frozen? ⟨fb,0,none⟩=false∧w.frozen? ⟨fb,1,none⟩=false:=by refine⟨⟨?_,?_⟩,?_,?_⟩<;>simp[World.cell?,World.frozen?,hf]
 refine wpS_of_wp ?_
 show Code.wp _ _ _ {tmps:=#[.pointer (some ⟨fb,0,none⟩),stopV c q,undef,undef,stopV c q,undef,undef,undef,undef,undef,undef,undef,undef,undef,undef,undef],defers:=[]} w
 unfold stopV
 have hta:∀(v:Value) (w:World),(Instr.typeAssert (.iface 100 v) 20 100 true).run Tryz.prog w=.ok (.tuple #[v,.bool true]) w:=fun _ _=>by kernel_rfl
 have n1:∀o,(((w.setCell ⟨fb,0,none⟩ (.int .i64 c)).setCell ⟨fb,1,none⟩ (.int .i64 (q:Int))).alloc o).heap[fb]? =some (.cells #[.int .i64 c,.int .i64 (q:Int)] 45 (0,0)):=fun o=>heap_past_alloc (by simp[World.setCell,Array.getElem?_modify,hf])
 have n2:∀o,w.grownBy (((w.setCell ⟨fb,0,none⟩ (.int .i64 c)).setCell ⟨fb,1,none⟩ (.int .i64 (q:Int))).alloc o) (some fb):=by
  intro o
  refine grown_alloc ?_ _
  refine grown_set ?_ rfl _
  refine grown_set ?_ rfl _
  exact grown_refl _ _
 have N:Hid ((∀o,(((w.setCell ⟨fb,0,none⟩ (.int .i64 c)).setCell ⟨fb,1,none⟩ (.int .i64 (q:Int))).alloc o).heap[fb]? =some (.cells #[.int .i64 c,.int .i64 (q:Int)] 45 (0,0)))∧∀o,w.grownBy (((w.setCell ⟨fb,0,none⟩ (.int .i64 c)).setCell ⟨fb,1,none⟩ (.int .i64 (q:Int))).alloc o) (some fb)):=⟨n1,n2⟩
 clear n1 n2
 go_wp2
 obtain⟨n1,n2⟩:=N.out
 exact⟨rfl,_,rfl,.tuple #[],by simp[results,Tryz.results35],rfl,rfl,n1 _,n2 _⟩
end Go.Proofs.YtepkhlpjgnckkaaGreatDoor
