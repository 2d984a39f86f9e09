/- The reader of package parse: what it holds; its small steps. And more of the same. -/
import Derived.Test.YtepkhlpjgnckkaaGreatDoorZA6
namespace Go.Proofs.YtepkhlpjgnckkaaGreatDoor
set_option maxRecDepth 100000
set_option maxHeartbeats 8000000
open Go.RowKit
open Par (Tok Po Tr nx atP isT ba)
def tokC (t:Tok):List Value:=[.int .i64 t.1,.int .i64 (t.2.1:Int),.string (ba t.2.2)]
def Good (t:Tok):Prop:=t.2.2.length≤4000∧t.2.1≤4000∧(t.1=2→t.2.2.length≤18∧Lib.atoi t.2.2=some (Par.numV t.2.2))
structure Rd (w:World)(rb e:Nat)(bl pr:Int)(ts:List Tok)(v:Value):Prop where
 blk:w.heap[rb]? =some (.cells #[v,.int .i64 (e:Int),.int .i64 bl,.int .i64 pr] 103 (0,0))
 row:RowV w (fun b=>b<rb) 3 v (ts.map tokC)
 len:ts.length≤600
 good:∀t∈ts,Good t
 lv:LevAt w rb
def stopV (c:Int)(q:Nat):Value:=.iface 100 (.agg #[.int .i64 c,.int .i64 (q:Int)])
def goneE (c:Int)(q:Nat):Ending:=.panicked [{v:=stopV c q,recovered:=false}]
theorem blk3 {w:World}{b:Nat}{x y z:Value}{e:TypeId}(h:w.heap[b]? =some (.cells #[x,y,z] e (0,0))):
 (w.cell? ⟨b,0,none⟩=some x∧w.cell? ⟨b,1,none⟩=some y∧w.cell? ⟨b,2,none⟩=some z)∧w.frozen? ⟨b,0,none⟩=false∧w.frozen? ⟨b,1,none⟩=false∧w.frozen? ⟨b,2,none⟩=false:=by
 refine⟨⟨?_,?_,?_⟩,?_,?_,?_⟩<;>simp[World.cell?,World.frozen?,h]
theorem Rd.cells {w:World}{rb e:Nat}{bl pr:Int}{ts:List Tok}{v:Value}(h:Rd w rb e bl pr ts v):
 w.cell? ⟨rb,0,none⟩=some v∧w.cell? ⟨rb,1,none⟩=some (.int .i64 (e:Int))∧w.cell? ⟨rb,2,none⟩=some (.int .i64 bl)∧w.cell? ⟨rb,3,none⟩=some (.int .i64 pr):=by
 have:=h.blk
 refine⟨?_,?_,?_,?_⟩<;>simp[World.cell?,this]
theorem Rd.frozen {w:World}{rb e:Nat}{bl pr:Int}{ts:List Tok}{v:Value}(h:Rd w rb e bl pr ts v)(k:Nat):w.frozen? ⟨rb,k,none⟩=false:=by
 simp[World.frozen?,h.blk]
theorem Rd.lt {w:World}{rb e:Nat}{bl pr:Int}{ts:List Tok}{v:Value}(h:Rd w rb e bl pr ts v):rb<w.heap.size:=lt_of_block h.blk
theorem Rd.keeps {w w':World}{rb e B:Nat}{bl pr:Int}{ts:List Tok}{v:Value}(h:Rd w rb e bl pr ts v)(k:Below B w w')(hB:rb<B):Rd w' rb e bl pr ts v:=
 ⟨(k.block _ hB).trans h.blk,h.row.keeps ⟨k.size,fun b hb _=>k.block b (by omega)⟩,h.len,h.good,h.lv.keeps k.size fun b hb=>k.block b (by omega)⟩
theorem Rd.none {w:World}{rb e:Nat}{bl pr:Int}{v:Value}(h:Rd w rb e bl pr [] v):∃ao c,v=.slice ao 0 c:=by
 obtain⟨ao,b,off,c,hv,_⟩:=h.row
 exact⟨ao,c,hv⟩
theorem Rd.some {w:World}{rb e:Nat}{bl pr:Int}{t:Tok}{r:List Tok}{v:Value}(h:Rd w rb e bl pr (t::r) v):
 ∃b off c,v=.slice (.some ⟨b,off,.none⟩) (r.length+1) c∧b<rb∧r.length+1≤c∧c≤maxLen∧w.cell? ⟨b,off,.none⟩=.some (.int .i64 t.1)∧w.cell? ⟨b,off+1,.none⟩=.some (.int .i64 (t.2.1:Int))∧w.cell? ⟨b,off+2,.none⟩=.some (.string (ba t.2.2))∧
  RowV w (fun b=>b<rb) 3 (.slice (.some ⟨b,off+3,.none⟩) r.length (c - 1)) (r.map tokC):=by
 obtain⟨ao,b,off,c,hv,hr⟩:=h.row
 have hp:0<((t::r).map tokC).length:=by simp
 have ha:=hr.adr hp
 subst ha
 have hcell:=hr.cell 0 hp
 refine⟨b,off,c,by simpa using hv,hr.ok hp,by simpa using hr.cap,hr.mx,?_,?_,?_,?_⟩
 ·have:=hcell 0 (.int .i64 t.1) rfl;simpa using this
 ·have:=hcell 1 (.int .i64 (t.2.1:Int)) rfl;simpa using this
 ·have:=hcell 2 (.string (ba t.2.2)) rfl;simpa using this
 ·have hc:=hr.cap
  refine⟨_,b,off+3,c - 1,by rw[List.length_map],⟨by simp,?_,by have:=hr.mx;omega,fun _=>rfl,fun _=>hr.ok hp,fun _=>hr.pl hp,fun i hi=> ?_,fun i hi j u hu=> ?_⟩⟩
  ·simp at hc⊢;omega
  ·simp[tokC]
  ·have:=hr.cell (i+1) (by simpa using hi) j u (by simpa using hu)
   rw[←this];congr 2;omega
theorem Rd.goods {w:World}{rb e:Nat}{bl pr:Int}{t:Tok}{r:List Tok}{v:Value}(h:Rd w rb e bl pr (t::r) v):Good t:=h.good t (by simp)
theorem Rd.step {w:World}{rb e:Nat}{bl pr:Int}{t:Tok}{r:List Tok}{v v':Value}(h:Rd w rb e bl pr (t::r) v)(hr:RowV w (fun b=>b<rb) 3 v' (r.map tokC)):Rd (w.setCell ⟨rb,0,.none⟩ v') rb e bl pr r v':=by
 refine⟨?_,hr.keeps ⟨by simp[World.setCell],fun b hb _=> ?_⟩,by have:=h.len;simp at this;omega,fun x hx=>h.good x (by simp[hx]),h.lv.keeps (by simp[World.setCell]) fun b hb=>Below.heap_setCell _ _ _ _ (by show b≠rb;omega)⟩
 ·simp[World.setCell,Array.getElem?_modify,h.blk]
 ·exact Below.heap_setCell _ _ _ _ (by show b≠rb;omega)
theorem rAt_any {w:World}{rb e:Nat}{bl pr:Int}{ts:List Tok}{v:Value}(h:Rd w rb e bl pr ts v):
 Calls Tryz.prog 58 #[.pointer (some ⟨rb,0,none⟩)] w fun x w'=>x=.returned (.int .i64 (atP e ts:Nat))∧w'=w:=by
 have hlt:=h.lt
 cases ts with
 | nil=>
  obtain⟨ao,c,rfl⟩:=h.none
  obtain⟨c0,c1,c2,c3⟩:=h.cells
  clear h
  go_enter Tryz.func58,Tryz.ntmps58
  go_wp2
  go_ret
  exact⟨rfl,rfl⟩
 | cons t r=>
  obtain⟨b,off,c,rfl,hb,hc,hm,k0,k1,k2,_⟩:=h.some
  obtain⟨c0,c1,c2,c3⟩:=h.cells
  have hl:=h.len
  have hbw:b<w.heap.size:=by omega
  unfold maxLen at hm
  clear h
  go_enter Tryz.func58,Tryz.ntmps58
  go_wp2
  go_ret
  exact⟨rfl,rfl⟩
theorem rNext_any {w:World}{rb e:Nat}{bl pr:Int}{ts:List Tok}{v:Value}(h:Rd w rb e bl pr ts v):
 Calls Tryz.prog 37 #[.pointer (some ⟨rb,0,none⟩)] w fun x w'=>x=.returned (.agg #[.int .i64 (nx ts).1,.int .i64 ((nx ts).2.1:Int),.string (ba (nx ts).2.2)])∧Below w.heap.size w w':=by
 have hlt:=h.lt
 cases ts with
 | nil=>
  obtain⟨ao,c,rfl⟩:=h.none
  obtain⟨c0,c1,c2,c3⟩:=h.cells
  clear h
  go_enter Tryz.func37,Tryz.ntmps37
  go_wp2
  exact bodyPost_ret (v:=.agg #[.int .i64 0,.int .i64 0,.string ⟨#[]⟩]) (by simp[results,Tryz.results37,go_sem]) rfl ⟨rfl,(Below.refl _ _).alloc (Nat.le_refl _) _⟩
 | cons t r=>
  obtain⟨b,off,c,rfl,hb,hc,hm,k0,k1,k2,_⟩:=h.some
  obtain⟨c0,c1,c2,c3⟩:=h.cells
  have hl:=h.len
  have hbw:b<w.heap.size:=by omega
  unfold maxLen at hm
  clear h
  go_enter Tryz.func37,Tryz.ntmps37
  go_wp2
  exact bodyPost_ret (v:=.agg #[.int .i64 t.1,.int .i64 (t.2.1:Int),.string (ba t.2.2)]) (by simp[results,Tryz.results37,go_sem]) rfl ⟨rfl,(Below.refl _ _).alloc (Nat.le_refl _) _⟩
open Par (Tok Po Tr nx atP isT ba Res)
theorem ba_list (l:List UInt8):(ba l).toList=l:=by rw[Lex.list_of];simp[ba]
theorem ba_data (l:List UInt8):(ba l).data.toList=l:=by simp[ba]
theorem is_of (s:ByteArray)(ts:List Tok):((ba (nx ts).2.2).toList==s.toList)=isT s.data.toList ts:=by
 rw[ba_list,Lex.list_of];rfl
theorem fTok0 (x y z:Value)(w:World):(Instr.field 106 (.agg #[x,y,z]) 0).run Tryz.prog w=.ok x w:=by kernel_rfl
theorem fTok1 (x y z:Value)(w:World):(Instr.field 106 (.agg #[x,y,z]) 1).run Tryz.prog w=.ok y w:=by kernel_rfl
theorem fTok2 (x y z:Value)(w:World):(Instr.field 106 (.agg #[x,y,z]) 2).run Tryz.prog w=.ok z w:=by kernel_rfl
structure Fr (B rb:Nat)(w w':World):Prop where
 os:w'.os=w.os
 tape:w'.tape=w.tape
 output:w'.output=w.output
 size:w.heap.size≤w'.heap.size
 block:∀k,k<B→k≠rb→w'.heap[k]? =w.heap[k]?
theorem Fr.of_grown {B rb:Nat}{w w':World}(h:w.grownBy w' (some rb))(hB:B≤w.heap.size):Fr B rb w w':=⟨h.os,h.tape,h.output,h.size,fun k hk hn=>h.block k (by omega) (by simp;exact hn)⟩
theorem Fr.of_below {B rb:Nat}{w w':World}(h:Below B w w'):Fr B rb w w':=⟨h.os,h.tape,h.output,h.size,fun k hk _=>h.block k hk⟩
theorem Fr.trans {B rb:Nat}{a b c:World}(h:Fr B rb a b)(k:Fr B rb b c):Fr B rb a c:=⟨k.os.trans h.os,k.tape.trans h.tape,k.output.trans h.output,Nat.le_trans h.size k.size,fun i hi hn=>(k.block i hi hn).trans (h.block i hi hn)⟩
theorem Fr.grown {rb:Nat}{w w':World}(h:Fr w.heap.size rb w w'):w.grownBy w' (some rb):=⟨h.os,h.tape,h.output,h.size,fun k hk hn=>h.block k hk (fun hh=>hn (by rw[hh]))⟩
theorem Fr.mono {B B' rb:Nat}{w w':World}(h:Fr B rb w w')(hB:B'≤B):Fr B' rb w w':=⟨h.os,h.tape,h.output,h.size,fun k hk hn=>h.block k (by omega) hn⟩
def PostB {α:Type}(B:Nat)(w:World)(rb e:Nat)(bl pr:Int)(res:Res α)(V:World→α→Value→Prop)(x:Ending)(w':World):Prop:=
 Fr B rb w w'∧((∃a r,res=.ok a r∧∃u v',x=.returned u∧V w' a u∧Rd w' rb e bl pr r v')∨(∃c q,res=.no c q∧x=goneE c q∧∃r v',Rd w' rb e bl pr r v'))
def Post {α:Type}(w:World)(rb e:Nat)(bl pr:Int)(res:Res α)(V:World→α→Value→Prop)(x:Ending)(w':World):Prop:=
 w.grownBy w' (some rb)∧((∃a r,res=.ok a r∧∃u v',x=.returned u∧V w' a u∧Rd w' rb e bl pr r v')∨(∃c q,res=.no c q∧x=goneE c q∧∃r v',Rd w' rb e bl pr r v'))
theorem grown_of_below {w w':World}(o:Option Nat)(h:Below w.heap.size w w'):w.grownBy w' o:=⟨h.os,h.tape,h.output,h.size,fun k hk _=>h.block k hk⟩
theorem rGive_any {w:World}{rb e:Nat}{bl pr:Int}{ts:List Tok}{v:Value}(c:Int)(h:Rd w rb e bl pr ts v):
 Calls Tryz.prog 36 #[.pointer (some ⟨rb,0,none⟩),.int .i64 c] w fun x w'=>x=goneE c (atP e ts)∧w'=w:=by
 have H:Hid (Rd w rb e bl pr ts v):=h
 clear h
 go_enter Tryz.func36,Tryz.ntmps36
 go_wp2_with (go_at_call 58;refine(rAt_any H.out).mono ?_;rintro x w' ⟨rfl,rfl⟩)
 exact⟨rfl,rfl,rfl⟩
theorem rIs_any {w:World}{rb e:Nat}{bl pr:Int}{ts:List Tok}{v:Value}(s:ByteArray)(h:Rd w rb e bl pr ts v):
 Calls Tryz.prog 64 #[.pointer (some ⟨rb,0,none⟩),.string s] w fun x w'=>x=.returned (.bool (isT s.data.toList ts))∧Below w.heap.size w w':=by
 have H:Hid (Rd w rb e bl pr ts v):=h
 have E:Hid (((ba (nx ts).2.2).toList==s.toList)=isT s.data.toList ts):=is_of s ts
 have f2:=fTok2
 clear h
 go_enter Tryz.func64,Tryz.ntmps64
 go_wp2_with (go_at_call 37;refine(rNext_any H.out).mono ?_;rintro x w1 ⟨rfl,hb1⟩)
 go_ret
 exact⟨by rw[←E.out];rfl,hb1⟩
theorem take_below {w:World}{n:Nat}(hn:n≤w.heap.size){x y z:Value}{k:Nat}{v:Value}{rb:Nat}{o:Obj}:Below n (w.setCell ⟨rb,k,none⟩ v) (((((w.setCell ⟨rb,k,none⟩ v).setCell ⟨n,0,none⟩ x).setCell ⟨n,1,none⟩ y).setCell ⟨n,2,none⟩ z).alloc o):=
 ((((Below.refl _ _).setCell (Nat.le_refl n) _).setCell (Nat.le_refl n) _).setCell (Nat.le_refl n) _).alloc (by simpa[World.setCell] using hn) _
theorem take_grown {w w1:World}{x y z:Value}{k:Nat}{v:Value}{rb:Nat}{o:Obj}(hb:Below w.heap.size w w1):w.grownBy (((((w1.setCell ⟨rb,k,none⟩ v).setCell ⟨w.heap.size,0,none⟩ x).setCell ⟨w.heap.size,1,none⟩ y).setCell ⟨w.heap.size,2,none⟩ z).alloc o) (some rb):=
 grown_alloc (grown_setNew (grown_setNew (grown_setNew (grown_set (grown_of_below _ hb) rfl v) (Nat.le_refl _) _) (Nat.le_refl _) _) (Nat.le_refl _) _) _
theorem rTake_any {w:World}{rb e:Nat}{bl pr:Int}{t:Tok}{r:List Tok}{v:Value}(h:Rd w rb e bl pr (t::r) v):
 Calls Tryz.prog 61 #[.pointer (some ⟨rb,0,none⟩)] w fun x w'=>x=.returned (.agg #[.int .i64 t.1,.int .i64 (t.2.1:Int),.string (ba t.2.2)])∧w.grownBy w' (some rb)∧∃v',Rd w' rb e bl pr r v':=by
 have hlt:=h.lt
 obtain⟨w0,hw0⟩:∃w0,w0=w.alloc (.cells #[.int .i64 0,.int .i64 0,.string ⟨#[]⟩] 106):=⟨_,rfl⟩
 have HB0:Hid (Below w.heap.size w w0):=by rw[hw0];exact(Below.refl _ _).alloc (Nat.le_refl _) _
 have H0:Hid (Rd w0 rb e bl pr (t::r) v):=h.keeps HB0.out h.lt
 clear h
 go_enter Tryz.func61,Tryz.ntmps61
 go_wp2_with fail
 rw[←hw0]
 refine(rNext_any H0.out).mono ?_
 rintro x w1 ⟨rfl,hb1⟩
 rw[show nx (t::r)=t from rfl]
 have h1:=H0.out.keeps hb1 H0.out.lt
 have hres:w1.heap[w.heap.size]? =some (.cells #[.int .i64 0,.int .i64 0,.string ⟨#[]⟩] 106 (0,0)):=by
  rw[hb1.block _ (by rw[hw0];simp),hw0];exact heap_at_alloc _ _ _ rfl
 have hrl:=lt_of_block hres
 obtain⟨⟨q0,q1,q2⟩,y0,y1,y2⟩:=blk3 hres
 obtain⟨b,off,c,rfl,hb,hc,hm,k0,k1,k2,hr⟩:=h1.some
 obtain⟨c0,c1,c2,c3⟩:=h1.cells
 have z0:=h1.frozen 0
 have hl:=h1.len
 have hl1:=h1.lt
 have HB1:Hid (Below w.heap.size w w1):=HB0.out.trans (hb1.mono HB0.out.size)
 unfold maxLen at hm
 simp only[List.length_cons] at hl
 by_cases hc1:c=1
 ·subst hc1
  obtain rfl:r=[]:=List.length_eq_zero_iff.1 (by omega)
  have HR:Hid (Rd (w1.setCell ⟨rb,0,none⟩ (.slice (some ⟨b,off,none⟩) 0 0)) rb e bl pr [] (.slice (some ⟨b,off,none⟩) 0 0)):=h1.step (RowV.none _ _ _ _)
  simp only[List.length_nil,Nat.zero_add] at c0
  clear h1 k0 k1 k2 hr hb1 hres H0
  go_wp2
  exact bodyPost_ret (v:=.agg #[.int .i64 t.1,.int .i64 (t.2.1:Int),.string (ba t.2.2)]) (by simp[results,Tryz.results61,go_sem,q0,q1,q2,hrl]) rfl ⟨rfl,take_grown HB1.out,_,HR.out.keeps (take_below (Nat.le_of_lt hrl)) hlt⟩
 ·have HR:Hid (Rd (w1.setCell ⟨rb,0,none⟩ (.slice (some ⟨b,off+3,none⟩) r.length (c - 1))) rb e bl pr r (.slice (some ⟨b,off+3,none⟩) r.length (c - 1))):=h1.step hr
  clear h1 k0 k1 k2 hr hb1 hres H0
  go_wp2
  exact bodyPost_ret (v:=.agg #[.int .i64 t.1,.int .i64 (t.2.1:Int),.string (ba t.2.2)]) (by simp[results,Tryz.results61,go_sem,q0,q1,q2,hrl]) rfl ⟨rfl,take_grown HB1.out,_,HR.out.keeps (take_below (Nat.le_of_lt hrl)) hlt⟩
theorem is_some {s:List UInt8}{ts:List Tok}(hs:s≠[])(h:isT s ts=true):∃t r,ts=t::r:=by
 cases ts with
 | nil=>
  simp only[isT,nx,beq_iff_eq] at h
  exact absurd h.symm hs
 | cons t r=>exact⟨t,r,rfl⟩
theorem rMay_any {w:World}{rb e:Nat}{bl pr:Int}{ts:List Tok}{v:Value}(s:ByteArray)(hs:s.data.toList≠[])(h:Rd w rb e bl pr ts v):
 Calls Tryz.prog 66 #[.pointer (some ⟨rb,0,none⟩),.string s] w fun x w'=>x=.returned (.bool (isT s.data.toList ts))∧w.grownBy w' (some rb)∧∃v',Rd w' rb e bl pr (if isT s.data.toList ts=true then ts.tail else ts) v':=by
 have H:Hid (Rd w rb e bl pr ts v):=h
 clear h
 cases hi:isT s.data.toList ts with
 | false=>
  go_enter Tryz.func66,Tryz.ntmps66
  go_wp2_with fail
  refine(rIs_any _ H.out).mono ?_
  rintro x w1 ⟨rfl,hb1⟩
  rw[hi]
  have H1:Hid (Rd w1 rb e bl pr ts v):=H.out.keeps hb1 H.out.lt
  have HB1:Hid (Below w.heap.size w w1):=hb1
  clear hb1
  go_wp2
  go_ret
  exact⟨rfl,grown_of_below _ HB1.out,_,H1.out⟩
 | true=>
  obtain⟨t,r,rfl⟩:=is_some hs hi
  go_enter Tryz.func66,Tryz.ntmps66
  go_wp2_with fail
  refine(rIs_any _ H.out).mono ?_
  rintro x w1 ⟨rfl,hb1⟩
  rw[hi]
  have H1:Hid (Rd w1 rb e bl pr (t::r) v):=H.out.keeps hb1 H.out.lt
  have HB1:Hid (w.grownBy w1 (some rb)):=grown_of_below _ hb1
  clear hb1
  go_wp2_with fail
  refine(rTake_any H1.out).mono ?_
  rintro x w2 ⟨rfl,hg,v2,h2⟩
  have H2:Hid (Rd w2 rb e bl pr r v2):=h2
  have HG:Hid (w1.grownBy w2 (some rb)):=hg
  clear h2 hg
  go_wp2
  go_ret
  exact⟨rfl,grown_trans HB1.out HG.out,_,H2.out⟩
theorem rMust_any {w:World}{rb e:Nat}{bl pr:Int}{ts:List Tok}{v:Value}(s:ByteArray)(hs:s.data.toList≠[])(h:Rd w rb e bl pr ts v):
 Calls Tryz.prog 59 #[.pointer (some ⟨rb,0,none⟩),.string s] w (Post w rb e bl pr (Par.must e s.data.toList ts) fun _ a u=>u=.int .i64 (a:Int)):=by
 have H:Hid (Rd w rb e bl pr ts v):=h
 have f1:=fTok1
 clear h
 cases hi:isT s.data.toList ts with
 | false=>
  have HM:Hid (Par.must e s.data.toList ts=.no 1 (atP e ts)):=by show _=_;unfold Par.must;rw[if_neg (by simp[hi])]
  go_enter Tryz.func59,Tryz.ntmps59
  go_wp2_with fail
  refine(rIs_any _ H.out).mono ?_
  rintro x w1 ⟨rfl,hb1⟩
  rw[hi]
  have H1:Hid (Rd w1 rb e bl pr ts v):=H.out.keeps hb1 H.out.lt
  have HB1:Hid (Below w.heap.size w w1):=hb1
  clear hb1
  go_wp2_with fail
  refine(rGive_any _ H1.out).mono ?_
  rintro x w2 ⟨rfl,hw2⟩
  subst hw2
  exact⟨rfl,grown_of_below _ HB1.out,.inr ⟨_,_,HM.out,rfl,_,_,H1.out⟩⟩
 | true=>
  obtain⟨t,r,rfl⟩:=is_some hs hi
  have HM:Hid (Par.must e s.data.toList (t::r)=.ok t.2.1 r):=by show _=_;unfold Par.must;rw[if_pos hi];rfl
  go_enter Tryz.func59,Tryz.ntmps59
  go_wp2_with fail
  refine(rIs_any _ H.out).mono ?_
  rintro x w1 ⟨rfl,hb1⟩
  rw[hi]
  have H1:Hid (Rd w1 rb e bl pr (t::r) v):=H.out.keeps hb1 H.out.lt
  have HB1:Hid (w.grownBy w1 (some rb)):=grown_of_below _ hb1
  clear hb1
  go_wp2_with fail
  refine(rTake_any H1.out).mono ?_
  rintro x w2 ⟨rfl,hg,v2,h2⟩
  have H2:Hid (Rd w2 rb e bl pr r v2):=h2
  have HG:Hid (w1.grownBy w2 (some rb)):=hg
  clear h2 hg
  go_wp2
  go_ret
  exact⟨grown_trans HB1.out HG.out,.inl ⟨_,_,HM.out,_,_,rfl,rfl,H2.out⟩⟩
theorem ba_size (l:List UInt8):(ba l).size=l.length:=by simp[ba,ByteArray.size]
theorem rName_any {w:World}{rb e:Nat}{bl pr:Int}{ts:List Tok}{v:Value}(h:Rd w rb e bl pr ts v):
 Calls Tryz.prog 60 #[.pointer (some ⟨rb,0,none⟩)] w (Post w rb e bl pr (Par.nameR e ts) fun _ a u=>u=.string a∧a.size≤maxLen):=by
 have H:Hid (Rd w rb e bl pr ts v):=h
 have f0:=fTok0
 have f2:=fTok2
 clear h
 by_cases hk:(nx ts).1=1
 ·obtain⟨t,r,rfl⟩:∃t r,ts=t::r:=by
   cases ts with
   | nil=>cases hk
   | cons t r=>exact⟨t,r,rfl⟩
  have hk':t.1=1:=hk
  have hb:(t.1 !=1)=false:=by simp[hk']
  have HM:Hid (Par.nameR e (t::r)=.ok (ba t.2.2) r):=by show _=_;unfold Par.nameR;rw[if_pos hk];rfl
  have HZ:Hid ((ba t.2.2).size≤maxLen):=by
   show _≤_
   have:=H.out.goods.1
   rw[ba_size];unfold maxLen;omega
  clear hk hk'
  go_enter Tryz.func60,Tryz.ntmps60
  go_wp2_with fail
  refine(rNext_any H.out).mono ?_
  rintro x w1 ⟨rfl,hb1⟩
  rw[show nx (t::r)=t from rfl]
  have H1:Hid (Rd w1 rb e bl pr (t::r) v):=H.out.keeps hb1 H.out.lt
  have HB1:Hid (w.grownBy w1 (some rb)):=grown_of_below _ hb1
  clear hb1
  go_wp2_with fail
  refine(rTake_any H1.out).mono ?_
  rintro x w2 ⟨rfl,hg,v2,h2⟩
  have H2:Hid (Rd w2 rb e bl pr r v2):=h2
  have HG:Hid (w1.grownBy w2 (some rb)):=hg
  clear h2 hg
  go_wp2
  go_ret
  exact⟨grown_trans HB1.out HG.out,.inl ⟨_,_,HM.out,_,_,rfl,⟨rfl,HZ.out⟩,H2.out⟩⟩
 ·have hb:((nx ts).1 !=1)=true:=by simp[hk]
  have HM:Hid (Par.nameR e ts=.no 1 (atP e ts)):=by show _=_;unfold Par.nameR;rw[if_neg hk]
  clear hk
  go_enter Tryz.func60,Tryz.ntmps60
  go_wp2_with fail
  refine(rNext_any H.out).mono ?_
  rintro x w1 ⟨rfl,hb1⟩
  have H1:Hid (Rd w1 rb e bl pr ts v):=H.out.keeps hb1 H.out.lt
  have HB1:Hid (w.grownBy w1 (some rb)):=grown_of_below _ hb1
  clear hb1
  go_wp2_with fail
  refine(rGive_any _ H1.out).mono ?_
  rintro x w2 ⟨rfl,hw2⟩
  subst hw2
  exact⟨rfl,HB1.out,.inr ⟨_,_,HM.out,rfl,_,_,H1.out⟩⟩
open Par (levF ba)
theorem bitC (b:Bool)(w:World):Calls Tryz.prog 10 #[.bool b] w fun x w'=>x=.returned (.int .i64 (Rr.bitI b))∧w'=w:=by
 cases b
 all_goals
  go_enter Tryz.func10,Tryz.ntmps10
  go_wp2
  go_ret
  exact⟨rfl,rfl⟩
def hold (s:List UInt8)(a b:Int):Bool:=
 if s=[124,124] then(a !=0 || b !=0) else if s=[38,38] then(a !=0 && b !=0) else if s=[61,61] then a==b else if s=[33,61] then a !=b else if s=[60] then decide (a<b) else if s=[60,61] then decide (a≤b) else if s=[62] then decide (b<a) else decide (b≤a)
theorem hold0 (a b:Int)(w:World):Calls Tryz.prog 11 #[.string (ba [124,124]),.int .i64 a,.int .i64 b] w fun x w'=>x=.returned (.bool (hold [124,124] a b))∧w'=w:=by
 by_cases ha:a=0<;>by_cases hb:b=0
 all_goals
  have e0:((ba [124,124]).toList==[124,124])=true:=by rw[ba_list];decide
  have e1:((ba [124,124]).toList==[38,38])=false:=by rw[ba_list];decide
  have e2:((ba [124,124]).toList==[61,61])=false:=by rw[ba_list];decide
  have e3:((ba [124,124]).toList==[33,61])=false:=by rw[ba_list];decide
  have e4:((ba [124,124]).toList==[60])=false:=by rw[ba_list];decide
  have e5:((ba [124,124]).toList==[60,61])=false:=by rw[ba_list];decide
  have e6:((ba [124,124]).toList==[62])=false:=by rw[ba_list];decide
  go_enter Tryz.func11,Tryz.ntmps11
  go_wp2
  all_goals go_ret
  all_goals exact⟨by simp[hold,ha,hb],rfl⟩
theorem hold1 (a b:Int)(w:World):Calls Tryz.prog 11 #[.string (ba [38,38]),.int .i64 a,.int .i64 b] w fun x w'=>x=.returned (.bool (hold [38,38] a b))∧w'=w:=by
 by_cases ha:a=0<;>by_cases hb:b=0
 all_goals
  have e0:((ba [38,38]).toList==[124,124])=false:=by rw[ba_list];decide
  have e1:((ba [38,38]).toList==[38,38])=true:=by rw[ba_list];decide
  have e2:((ba [38,38]).toList==[61,61])=false:=by rw[ba_list];decide
  have e3:((ba [38,38]).toList==[33,61])=false:=by rw[ba_list];decide
  have e4:((ba [38,38]).toList==[60])=false:=by rw[ba_list];decide
  have e5:((ba [38,38]).toList==[60,61])=false:=by rw[ba_list];decide
  have e6:((ba [38,38]).toList==[62])=false:=by rw[ba_list];decide
  go_enter Tryz.func11,Tryz.ntmps11
  go_wp2
  all_goals go_ret
  all_goals exact⟨by simp[hold,ha,hb],rfl⟩
theorem hold2 (a b:Int)(w:World):Calls Tryz.prog 11 #[.string (ba [61,61]),.int .i64 a,.int .i64 b] w fun x w'=>x=.returned (.bool (hold [61,61] a b))∧w'=w:=by
 have e0:((ba [61,61]).toList==[124,124])=false:=by rw[ba_list];decide
 have e1:((ba [61,61]).toList==[38,38])=false:=by rw[ba_list];decide
 have e2:((ba [61,61]).toList==[61,61])=true:=by rw[ba_list];decide
 have e3:((ba [61,61]).toList==[33,61])=false:=by rw[ba_list];decide
 have e4:((ba [61,61]).toList==[60])=false:=by rw[ba_list];decide
 have e5:((ba [61,61]).toList==[60,61])=false:=by rw[ba_list];decide
 have e6:((ba [61,61]).toList==[62])=false:=by rw[ba_list];decide
 go_enter Tryz.func11,Tryz.ntmps11
 go_wp2
 all_goals go_ret
 all_goals exact⟨by simp[hold],rfl⟩
theorem hold3 (a b:Int)(w:World):Calls Tryz.prog 11 #[.string (ba [33,61]),.int .i64 a,.int .i64 b] w fun x w'=>x=.returned (.bool (hold [33,61] a b))∧w'=w:=by
 have e0:((ba [33,61]).toList==[124,124])=false:=by rw[ba_list];decide
 have e1:((ba [33,61]).toList==[38,38])=false:=by rw[ba_list];decide
 have e2:((ba [33,61]).toList==[61,61])=false:=by rw[ba_list];decide
 have e3:((ba [33,61]).toList==[33,61])=true:=by rw[ba_list];decide
 have e4:((ba [33,61]).toList==[60])=false:=by rw[ba_list];decide
 have e5:((ba [33,61]).toList==[60,61])=false:=by rw[ba_list];decide
 have e6:((ba [33,61]).toList==[62])=false:=by rw[ba_list];decide
 go_enter Tryz.func11,Tryz.ntmps11
 go_wp2
 all_goals go_ret
 all_goals exact⟨by simp[hold],rfl⟩
theorem hold4 (a b:Int)(w:World):Calls Tryz.prog 11 #[.string (ba [60]),.int .i64 a,.int .i64 b] w fun x w'=>x=.returned (.bool (hold [60] a b))∧w'=w:=by
 have e0:((ba [60]).toList==[124,124])=false:=by rw[ba_list];decide
 have e1:((ba [60]).toList==[38,38])=false:=by rw[ba_list];decide
 have e2:((ba [60]).toList==[61,61])=false:=by rw[ba_list];decide
 have e3:((ba [60]).toList==[33,61])=false:=by rw[ba_list];decide
 have e4:((ba [60]).toList==[60])=true:=by rw[ba_list];decide
 have e5:((ba [60]).toList==[60,61])=false:=by rw[ba_list];decide
 have e6:((ba [60]).toList==[62])=false:=by rw[ba_list];decide
 go_enter Tryz.func11,Tryz.ntmps11
 go_wp2
 all_goals go_ret
 all_goals exact⟨by simp[hold],rfl⟩
theorem hold5 (a b:Int)(w:World):Calls Tryz.prog 11 #[.string (ba [60,61]),.int .i64 a,.int .i64 b] w fun x w'=>x=.returned (.bool (hold [60,61] a b))∧w'=w:=by
 have e0:((ba [60,61]).toList==[124,124])=false:=by rw[ba_list];decide
 have e1:((ba [60,61]).toList==[38,38])=false:=by rw[ba_list];decide
 have e2:((ba [60,61]).toList==[61,61])=false:=by rw[ba_list];decide
 have e3:((ba [60,61]).toList==[33,61])=false:=by rw[ba_list];decide
 have e4:((ba [60,61]).toList==[60])=false:=by rw[ba_list];decide
 have e5:((ba [60,61]).toList==[60,61])=true:=by rw[ba_list];decide
 have e6:((ba [60,61]).toList==[62])=false:=by rw[ba_list];decide
 go_enter Tryz.func11,Tryz.ntmps11
 go_wp2
 all_goals go_ret
 all_goals exact⟨by simp[hold],rfl⟩
theorem hold6 (a b:Int)(w:World):Calls Tryz.prog 11 #[.string (ba [62]),.int .i64 a,.int .i64 b] w fun x w'=>x=.returned (.bool (hold [62] a b))∧w'=w:=by
 have e0:((ba [62]).toList==[124,124])=false:=by rw[ba_list];decide
 have e1:((ba [62]).toList==[38,38])=false:=by rw[ba_list];decide
 have e2:((ba [62]).toList==[61,61])=false:=by rw[ba_list];decide
 have e3:((ba [62]).toList==[33,61])=false:=by rw[ba_list];decide
 have e4:((ba [62]).toList==[60])=false:=by rw[ba_list];decide
 have e5:((ba [62]).toList==[60,61])=false:=by rw[ba_list];decide
 have e6:((ba [62]).toList==[62])=true:=by rw[ba_list];decide
 go_enter Tryz.func11,Tryz.ntmps11
 go_wp2
 all_goals go_ret
 all_goals exact⟨by simp[hold],rfl⟩
theorem hold7 (a b:Int)(w:World):Calls Tryz.prog 11 #[.string (ba [62,61]),.int .i64 a,.int .i64 b] w fun x w'=>x=.returned (.bool (hold [62,61] a b))∧w'=w:=by
 have e0:((ba [62,61]).toList==[124,124])=false:=by rw[ba_list];decide
 have e1:((ba [62,61]).toList==[38,38])=false:=by rw[ba_list];decide
 have e2:((ba [62,61]).toList==[61,61])=false:=by rw[ba_list];decide
 have e3:((ba [62,61]).toList==[33,61])=false:=by rw[ba_list];decide
 have e4:((ba [62,61]).toList==[60])=false:=by rw[ba_list];decide
 have e5:((ba [62,61]).toList==[60,61])=false:=by rw[ba_list];decide
 have e6:((ba [62,61]).toList==[62])=false:=by rw[ba_list];decide
 go_enter Tryz.func11,Tryz.ntmps11
 go_wp2
 all_goals go_ret
 all_goals exact⟨by simp[hold],rfl⟩
def amt (s:List UInt8)(a b:Int):Int:=
 if s=[43] then Rr.w64 (a+b) else if s=[45] then Rr.w64 (a - b) else if s=[42] then Rr.w64 (a*b) else if b=0 then 0 else if s=[47] then Rr.w64 (a.tdiv b) else a.tmod b
theorem amt0 (a b:Int)(w:World):Calls Tryz.prog 12 #[.string (ba [43]),.int .i64 a,.int .i64 b] w fun x w'=>x=.returned (.int .i64 (amt [43] a b))∧w'=w:=by
 have e0:((ba [43]).toList==[43])=true:=by rw[ba_list];decide
 have e1:((ba [43]).toList==[45])=false:=by rw[ba_list];decide
 have e2:((ba [43]).toList==[42])=false:=by rw[ba_list];decide
 have e3:((ba [43]).toList==[47])=false:=by rw[ba_list];decide
 go_enter Tryz.func12,Tryz.ntmps12
 go_wp2
 all_goals go_ret
 all_goals exact⟨by simp[amt,wrap64,Rr.w64],rfl⟩
theorem amt1 (a b:Int)(w:World):Calls Tryz.prog 12 #[.string (ba [45]),.int .i64 a,.int .i64 b] w fun x w'=>x=.returned (.int .i64 (amt [45] a b))∧w'=w:=by
 have e0:((ba [45]).toList==[43])=false:=by rw[ba_list];decide
 have e1:((ba [45]).toList==[45])=true:=by rw[ba_list];decide
 have e2:((ba [45]).toList==[42])=false:=by rw[ba_list];decide
 have e3:((ba [45]).toList==[47])=false:=by rw[ba_list];decide
 go_enter Tryz.func12,Tryz.ntmps12
 go_wp2
 all_goals go_ret
 all_goals exact⟨by simp[amt,wrap64,Rr.w64],rfl⟩
theorem amt2 (a b:Int)(w:World):Calls Tryz.prog 12 #[.string (ba [42]),.int .i64 a,.int .i64 b] w fun x w'=>x=.returned (.int .i64 (amt [42] a b))∧w'=w:=by
 have e0:((ba [42]).toList==[43])=false:=by rw[ba_list];decide
 have e1:((ba [42]).toList==[45])=false:=by rw[ba_list];decide
 have e2:((ba [42]).toList==[42])=true:=by rw[ba_list];decide
 have e3:((ba [42]).toList==[47])=false:=by rw[ba_list];decide
 go_enter Tryz.func12,Tryz.ntmps12
 go_wp2
 all_goals go_ret
 all_goals exact⟨by simp[amt,wrap64,Rr.w64],rfl⟩
theorem amt3 (a b:Int)(w:World):Calls Tryz.prog 12 #[.string (ba [47]),.int .i64 a,.int .i64 b] w fun x w'=>x=.returned (.int .i64 (amt [47] a b))∧w'=w:=by
 by_cases hb:b=0
 all_goals
  have e0:((ba [47]).toList==[43])=false:=by rw[ba_list];decide
  have e1:((ba [47]).toList==[45])=false:=by rw[ba_list];decide
  have e2:((ba [47]).toList==[42])=false:=by rw[ba_list];decide
  have e3:((ba [47]).toList==[47])=true:=by rw[ba_list];decide
  go_enter Tryz.func12,Tryz.ntmps12
  go_wp2
  all_goals go_ret
  all_goals exact⟨by simp[amt,hb,wrap64,Rr.w64],rfl⟩
theorem amt4 (a b:Int)(w:World):Calls Tryz.prog 12 #[.string (ba [37]),.int .i64 a,.int .i64 b] w fun x w'=>x=.returned (.int .i64 (amt [37] a b))∧w'=w:=by
 by_cases hb:b=0
 all_goals
  have e0:((ba [37]).toList==[43])=false:=by rw[ba_list];decide
  have e1:((ba [37]).toList==[45])=false:=by rw[ba_list];decide
  have e2:((ba [37]).toList==[42])=false:=by rw[ba_list];decide
  have e3:((ba [37]).toList==[47])=false:=by rw[ba_list];decide
  go_enter Tryz.func12,Tryz.ntmps12
  go_wp2
  all_goals go_ret
  all_goals exact⟨by simp[amt,hb],rfl⟩
theorem lev_sgn (l:List UInt8)(h:levF l≠0):l=[124,124]∨l=[38,38]∨l=[61,61]∨l=[33,61]∨l=[60]∨l=[60,61]∨l=[62]∨l=[62,61]∨l=[43]∨l=[45]∨l=[42]∨l=[47]∨l=[37]:=by
 unfold levF at h
 simp only[List.mem_cons,List.not_mem_nil,or_false] at h
 repeat' split at h
 all_goals (first |(rename_i g;simp[g];done)|(rename_i g;rcases g with g | g | g | g | g | g<;>simp[g];done)|(rename_i g;rcases g with g | g<;>simp[g];done)|(rename_i g;rcases g with g | g | g<;>simp[g];done)| exact absurd rfl h)
def rkV (o:Option Int):Value:=match o with | some n=>.tuple #[.int .i64 n,.int .i64 0]| none=>.tuple #[.int .i64 0,.int .i64 5]
theorem reckC {w:World}{lim:Nat}(h:LevAt w lim)(l:List UInt8)(a b:Int):Calls Tryz.prog 4 #[.string (ba l),.int .i64 a,.int .i64 b] w fun x w'=>x=.returned (rkV (Rr.reck l a b))∧w'=w:=by
 have hL:=levelC h (ba l)
 rw[show(ba l).data.toList=l by simp[ba]] at hL
 by_cases h0:levF l=0
 ·have hn:Rr.reck l a b=none:=by
   unfold Rr.reck
   iterate 13 rw[if_neg (by intro h;subst h;revert h0;decide)]
  rw[hn]
  rw[h0] at hL
  go_enter Tryz.func4,Tryz.ntmps4
  go_wp2_with fail
  refine hL.mono ?_
  rintro x w' ⟨rfl,rfl⟩
  go_wp2
  exact bodyPost_ret (v:=.tuple #[.int .i64 0,.int .i64 5]) (by simp[results,Tryz.results4,go_sem]) rfl ⟨rfl,rfl⟩
 ·rcases lev_sgn l h0 with rfl | rfl | rfl | rfl | rfl | rfl | rfl | rfl | rfl | rfl | rfl | rfl | rfl
  ·have hc:=hold0 a b w
   rw[show levF [124,124]=1 from rfl] at hL
   go_enter Tryz.func4,Tryz.ntmps4
   go_wp2_with fail
   refine hL.mono ?_
   rintro x w' ⟨rfl,rfl⟩
   go_wp2_with fail
   refine hc.mono ?_
   rintro x w' ⟨rfl,rfl⟩
   go_wp2_with fail
   refine(bitC _ _).mono ?_
   rintro x w' ⟨rfl,rfl⟩
   go_wp2
   exact bodyPost_ret (v:=.tuple #[.int .i64 (Rr.bitI (hold [124,124] a b)),.int .i64 0]) (by simp[results,Tryz.results4,go_sem]) rfl ⟨rfl,rfl⟩
  ·have hc:=hold1 a b w
   rw[show levF [38,38]=2 from rfl] at hL
   go_enter Tryz.func4,Tryz.ntmps4
   go_wp2_with fail
   refine hL.mono ?_
   rintro x w' ⟨rfl,rfl⟩
   go_wp2_with fail
   refine hc.mono ?_
   rintro x w' ⟨rfl,rfl⟩
   go_wp2_with fail
   refine(bitC _ _).mono ?_
   rintro x w' ⟨rfl,rfl⟩
   go_wp2
   exact bodyPost_ret (v:=.tuple #[.int .i64 (Rr.bitI (hold [38,38] a b)),.int .i64 0]) (by simp[results,Tryz.results4,go_sem]) rfl ⟨rfl,rfl⟩
  ·have hc:=hold2 a b w
   rw[show levF [61,61]=3 from rfl] at hL
   go_enter Tryz.func4,Tryz.ntmps4
   go_wp2_with fail
   refine hL.mono ?_
   rintro x w' ⟨rfl,rfl⟩
   go_wp2_with fail
   refine hc.mono ?_
   rintro x w' ⟨rfl,rfl⟩
   go_wp2_with fail
   refine(bitC _ _).mono ?_
   rintro x w' ⟨rfl,rfl⟩
   go_wp2
   exact bodyPost_ret (v:=.tuple #[.int .i64 (Rr.bitI (hold [61,61] a b)),.int .i64 0]) (by simp[results,Tryz.results4,go_sem]) rfl ⟨rfl,rfl⟩
  ·have hc:=hold3 a b w
   rw[show levF [33,61]=3 from rfl] at hL
   go_enter Tryz.func4,Tryz.ntmps4
   go_wp2_with fail
   refine hL.mono ?_
   rintro x w' ⟨rfl,rfl⟩
   go_wp2_with fail
   refine hc.mono ?_
   rintro x w' ⟨rfl,rfl⟩
   go_wp2_with fail
   refine(bitC _ _).mono ?_
   rintro x w' ⟨rfl,rfl⟩
   go_wp2
   exact bodyPost_ret (v:=.tuple #[.int .i64 (Rr.bitI (hold [33,61] a b)),.int .i64 0]) (by simp[results,Tryz.results4,go_sem]) rfl ⟨rfl,rfl⟩
  ·have hc:=hold4 a b w
   rw[show levF [60]=3 from rfl] at hL
   go_enter Tryz.func4,Tryz.ntmps4
   go_wp2_with fail
   refine hL.mono ?_
   rintro x w' ⟨rfl,rfl⟩
   go_wp2_with fail
   refine hc.mono ?_
   rintro x w' ⟨rfl,rfl⟩
   go_wp2_with fail
   refine(bitC _ _).mono ?_
   rintro x w' ⟨rfl,rfl⟩
   go_wp2
   exact bodyPost_ret (v:=.tuple #[.int .i64 (Rr.bitI (hold [60] a b)),.int .i64 0]) (by simp[results,Tryz.results4,go_sem]) rfl ⟨rfl,rfl⟩
  ·have hc:=hold5 a b w
   rw[show levF [60,61]=3 from rfl] at hL
   go_enter Tryz.func4,Tryz.ntmps4
   go_wp2_with fail
   refine hL.mono ?_
   rintro x w' ⟨rfl,rfl⟩
   go_wp2_with fail
   refine hc.mono ?_
   rintro x w' ⟨rfl,rfl⟩
   go_wp2_with fail
   refine(bitC _ _).mono ?_
   rintro x w' ⟨rfl,rfl⟩
   go_wp2
   exact bodyPost_ret (v:=.tuple #[.int .i64 (Rr.bitI (hold [60,61] a b)),.int .i64 0]) (by simp[results,Tryz.results4,go_sem]) rfl ⟨rfl,rfl⟩
  ·have hc:=hold6 a b w
   rw[show levF [62]=3 from rfl] at hL
   go_enter Tryz.func4,Tryz.ntmps4
   go_wp2_with fail
   refine hL.mono ?_
   rintro x w' ⟨rfl,rfl⟩
   go_wp2_with fail
   refine hc.mono ?_
   rintro x w' ⟨rfl,rfl⟩
   go_wp2_with fail
   refine(bitC _ _).mono ?_
   rintro x w' ⟨rfl,rfl⟩
   go_wp2
   exact bodyPost_ret (v:=.tuple #[.int .i64 (Rr.bitI (hold [62] a b)),.int .i64 0]) (by simp[results,Tryz.results4,go_sem]) rfl ⟨rfl,rfl⟩
  ·have hc:=hold7 a b w
   rw[show levF [62,61]=3 from rfl] at hL
   go_enter Tryz.func4,Tryz.ntmps4
   go_wp2_with fail
   refine hL.mono ?_
   rintro x w' ⟨rfl,rfl⟩
   go_wp2_with fail
   refine hc.mono ?_
   rintro x w' ⟨rfl,rfl⟩
   go_wp2_with fail
   refine(bitC _ _).mono ?_
   rintro x w' ⟨rfl,rfl⟩
   go_wp2
   exact bodyPost_ret (v:=.tuple #[.int .i64 (Rr.bitI (hold [62,61] a b)),.int .i64 0]) (by simp[results,Tryz.results4,go_sem]) rfl ⟨rfl,rfl⟩
  ·have hc:=amt0 a b w
   rw[show levF [43]=4 from rfl] at hL
   go_enter Tryz.func4,Tryz.ntmps4
   go_wp2_with fail
   refine hL.mono ?_
   rintro x w' ⟨rfl,rfl⟩
   go_wp2_with fail
   refine hc.mono ?_
   rintro x w' ⟨rfl,rfl⟩
   go_wp2
   exact bodyPost_ret (v:=.tuple #[.int .i64 (amt [43] a b),.int .i64 0]) (by simp[results,Tryz.results4,go_sem]) rfl ⟨rfl,rfl⟩
  ·have hc:=amt1 a b w
   rw[show levF [45]=4 from rfl] at hL
   go_enter Tryz.func4,Tryz.ntmps4
   go_wp2_with fail
   refine hL.mono ?_
   rintro x w' ⟨rfl,rfl⟩
   go_wp2_with fail
   refine hc.mono ?_
   rintro x w' ⟨rfl,rfl⟩
   go_wp2
   exact bodyPost_ret (v:=.tuple #[.int .i64 (amt [45] a b),.int .i64 0]) (by simp[results,Tryz.results4,go_sem]) rfl ⟨rfl,rfl⟩
  ·have hc:=amt2 a b w
   rw[show levF [42]=5 from rfl] at hL
   go_enter Tryz.func4,Tryz.ntmps4
   go_wp2_with fail
   refine hL.mono ?_
   rintro x w' ⟨rfl,rfl⟩
   go_wp2_with fail
   refine hc.mono ?_
   rintro x w' ⟨rfl,rfl⟩
   go_wp2
   exact bodyPost_ret (v:=.tuple #[.int .i64 (amt [42] a b),.int .i64 0]) (by simp[results,Tryz.results4,go_sem]) rfl ⟨rfl,rfl⟩
  ·have hc:=amt3 a b w
   rw[show levF [47]=5 from rfl] at hL
   go_enter Tryz.func4,Tryz.ntmps4
   go_wp2_with fail
   refine hL.mono ?_
   rintro x w' ⟨rfl,rfl⟩
   go_wp2_with fail
   refine hc.mono ?_
   rintro x w' ⟨rfl,rfl⟩
   go_wp2
   exact bodyPost_ret (v:=.tuple #[.int .i64 (amt [47] a b),.int .i64 0]) (by simp[results,Tryz.results4,go_sem]) rfl ⟨rfl,rfl⟩
  ·have hc:=amt4 a b w
   rw[show levF [37]=5 from rfl] at hL
   go_enter Tryz.func4,Tryz.ntmps4
   go_wp2_with fail
   refine hL.mono ?_
   rintro x w' ⟨rfl,rfl⟩
   go_wp2_with fail
   refine hc.mono ?_
   rintro x w' ⟨rfl,rfl⟩
   go_wp2
   exact bodyPost_ret (v:=.tuple #[.int .i64 (amt [37] a b),.int .i64 0]) (by simp[results,Tryz.results4,go_sem]) rfl ⟨rfl,rfl⟩
open Par (Tr Stm Prm Chn Prc Prg Po ba)
theorem findC_first {l:List Chn}{s:ByteArray}{k i:Nat}{c:Chn}(h:Rr.findC l s k=some (i,c)):∃j,∃hj:j<l.length,i=k+j∧l[j]=c∧l[j].name=s∧∀m (hm:m<j),l[m].name≠s:=by
 induction l generalizing k with
 | nil=>cases h
 | cons x l ih=>
  unfold Rr.findC at h
  split at h
  ·rename_i e
   cases h
   exact⟨0,by simp,rfl,rfl,e,fun j hj=>by omega⟩
  ·rename_i e
   obtain⟨j,hj,h0,h1,h2,h3⟩:=ih h
   refine⟨j+1,by simp;omega,by omega,h1,h2,fun m hm=> ?_⟩
   cases m with
   | zero=>exact e
   | succ m=>exact h3 m (by omega)
theorem channelC {w:World}{L rb pb lb fuel lc:Nat}{ev:Value}{g:Rr.Sg}{P:Prg}{cv av nv qv:Value}(hR:RS w L rb pb lb fuel lc ev g)(hP:Pm w pb L P cv av nv qv){s:ByteArray}{i:Nat}{q:Chn}(hq:Rr.findC P.chans s 0=some (i,q)):
 Calls Tryz.prog 95 #[.pointer (some ⟨rb,0,none⟩),.string s] w fun x w'=>x=.returned (.int .i64 (i:Nat))∧Below w.heap.size w w':=by
 have hmf:=mkF
 obtain⟨i',hi,h0,rfl,hs,hj⟩:=findC_first hq
 obtain rfl:i=i':=by omega
 obtain⟨_,_,_,_,hcs,_,_,⟨css,⟨ao,b,off,c,rfl,hr⟩,hc1,hk⟩,_⟩:=hP.is
 simp only[List.cons.injEq,and_true] at hcs
 obtain⟨rfl,rfl,rfl,rfl⟩:=hcs
 have hnm:∀k (h1:k<css.length) (h2:k<P.chans.length),∃x0 x2 x3 x4,css[k]=[x0,.string P.chans[k].name,x2,x3,x4]:=fun k h1 h2=>by
  obtain⟨lv,h3,_⟩:=hk k h2 h1
  exact⟨_,_,_,_,h3⟩
 obtain⟨t,ht⟩:∃t:Array Value→Bool,t=fun x=>match (x[1]? :Option Value) with | some (.string a)=>decide (a=s)| _=>false:=⟨_,rfl⟩
 have htv:∀x0 a x2 x3 x4,t #[x0,.string a,x2,x3,x4]=decide (a=s):=fun _ _ _ _ _=>by rw[ht];rfl
 have HF:Hid (firstI t (css.map List.toArray)=(i:Int)):=by
  refine firstI_hit (by simp;omega) (fun x hx=> ?_) ?_
  ·obtain⟨j,hj1,rfl⟩:=List.mem_iff_getElem.1 hx
   simp at hj1
   simp only[List.getElem_take,List.getElem_map]
   obtain⟨x0,x2,x3,x4,e⟩:=hnm j (by omega) (by omega)
   rw[e]
   exact(htv _ _ _ _ _).trans (by simpa using hj j (by omega))
  ·simp only[List.getElem_map]
   obtain⟨x0,x2,x3,x4,e⟩:=hnm i (by omega) hi
   rw[e]
   exact(htv _ _ _ _ _).trans (by simpa using hs)
 obtain⟨w2,hw2⟩:∃w2,w2=w.alloc (.cells #[.string s] 9):=⟨_,rfl⟩
 have hb2:=al1 hw2
 have hidx:=indexFuncC 134 #[.pointer (some ⟨w.heap.size,0,none⟩)] (enters_of Tryz.func134 (by kernel_rfl) rfl) t ao b off css.length c (css.map List.toArray) w2 (by simp) (by have:=hP.few.1;omega) (hr.rws.later hb2) (fun W x hx hW=>by
  obtain⟨y,hy,rfl⟩:=List.mem_map.1 hx
  obtain⟨k,hk1,rfl⟩:=List.getElem_of_mem hy
  obtain⟨x0,x2,x3,x4,e⟩:=hnm k hk1 (by omega)
  rw[e]
  show Calls _ _ _ _ fun e w'=>e=.returned (.bool (t #[x0,.string P.chans[k].name,x2,x3,x4]))∧_
  rw[htv]
  exact tstC (ku hW (aa hw2)))
 rw[HF.out] at hidx
 have z3:w.cell? ⟨rb,3,none⟩=some (.pointer (some ⟨pb,0,none⟩)):=hR.cells.2.2.1
 have hlr:=hR.cells.2.2.2.2.2.2
 have y3:w.cell? ⟨pb,2,none⟩=some (.slice ao css.length c):=cl hP.blk 2 rfl
 have hlp:=lt_of_block hP.blk
 obtain⟨n,hn⟩:∃n,n=css.length:=⟨_,rfl⟩
 rw[←hn] at hidx y3
 have HB2:=hidq hb2
 clear hb2 hnm htv ht hj hk hc1 hP hr hs hn hR HF h0 hq
 go_enter Tryz.func95,Tryz.ntmps95
 go_wp2_with fail
 rw[←hw2]
 clear hw2
 refine hidx.mono ?_
 rintro x w3 ⟨rfl,hb3⟩
 have HB:=hidq (bu HB2.out hb3)
 clear hidx hb3 z3 y3 hlr hlp
 go_wp2
 go_ret
 exact⟨rfl,HB.out⟩
theorem RS.setL {w:World}{L rb pb lb fuel lc:Nat}{ev:Value}{g:Rr.Sg}(h:RS w L rb pb lb fuel lc ev g){i:Nat}(hi:i<g.left.length){l:List Int}{x':Option Addr}{c:Nat}(hc:l.length≤c)(hx:LiIs w L x' l):
 RS (w.setCell ⟨lb,i,none⟩ (.slice x' l.length c)) L rb pb lb fuel lc ev {g with left:=g.left.set i l}∧Kr rb lb ev ev w (w.setCell ⟨lb,i,none⟩ (.slice x' l.length c)):=by
 have hk:∀k,k≠lb→(w.setCell ⟨lb,i,none⟩ (.slice x' l.length c)).heap[k]? =w.heap[k]? :=fun k hk=>Below.heap_setCell _ _ _ _ hk
 have hll:=h.ll
 refine⟨⟨by rw[hk rb h.ne];simpa using h.blk,?_,?_,h.rl,h.ll,h.ne,h.eb,h.pn,h.ef,h.sf,h.ff,by simpa using h.lf⟩,⟨⟨by simp[World.setCell],fun k e _=>hk k e.2.1⟩,fun k e=>.inl e,Sm.set _ _ _⟩⟩
 ·obtain⟨C,h1,h2⟩:=h.lef
  refine⟨C.setIfInBounds i (.slice x' l.length c),by simp[World.setCell,Array.getElem?_modify,h1],fun j hj=> ?_⟩
  simp at hj
  have hC:i<C.size:=by
   obtain⟨x,c',e,_⟩:=h2 i hi
   exact(Array.getElem?_eq_some_iff.1 e).1
  by_cases hij:i=j
  ·subst hij
   refine⟨x',c,by simp[hC],by simpa using hc,?_⟩
   simp
   exact hx.keeps fun k hk'=>hk k (by omega)
  ·obtain⟨x,c',e1,e2,e3⟩:=h2 j hj
   refine⟨x,c',by rw[Array.getElem?_setIfInBounds_ne hij];rw[e1];simp[List.getElem_set_ne hij],by simpa[List.getElem_set_ne hij] using e2,?_⟩
   simp only[List.getElem_set_ne hij]
   exact e3.keeps fun k hk'=>hk k (by omega)
 ·obtain⟨css,h1,h2,h3⟩:=h.evs.ex
  exact⟨css,ownsRow_setCell_other h1 (fun e=>(h.eb lb e).2.1 rfl) _,h2,h3⟩
theorem takeC {w:World}{L rb pb lb fuel lc:Nat}{ev:Value}{g g':Rr.Sg}{P:Prg}{cv av nv qv:Value}(hR:RS w L rb pb lb fuel lc ev g)(hP:Pm w pb L P cv av nv qv){i:Nat}(hi:i<P.chans.length){n:Int}(ht:Rr.takeF g i P.chans[i].type=some (n,g')):
 Calls Tryz.prog 96 #[.pointer (some ⟨rb,0,none⟩),.int .i64 (i:Nat)] w fun x w'=>x=.returned (.int .i64 n)∧RS w' L rb pb lb fuel lc ev g'∧Kr rb lb ev ev w w':=by
 obtain⟨_,_,z3,z4,_,_,hlr⟩:=hR.cells
 obtain⟨m,hm⟩:∃m,m=g.left.length:=⟨_,rfl⟩
 rw[←hm] at z4
 have hil:i<g.left.length:=by
  rcases Nat.lt_or_ge i g.left.length with h | h
  ·exact h
  ·unfold Rr.takeF at ht
   rw[List.getElem?_eq_none h] at ht
   cases ht
 have hlf:=hR.lf
 obtain⟨C,h1,h2⟩:=hR.lef
 obtain⟨x,c,e1,e2,e3⟩:=h2 i hil
 have hlb:=lt_of_block h1
 have hfz:=fz h1 i
 have hrl:=hR.rl
 have hll:=hR.ll
 have hne:=hR.ne
 have c4:w.cell? ⟨lb,i,none⟩=some (.slice x g.left[i].length c):=by simp[World.cell?,h1,e1]
 have hin:i<m:=by omega
 unfold Rr.takeF at ht
 rw[List.getElem?_eq_getElem hil] at ht
 cases hl:g.left[i] with
 | nil=>
  rw[hl] at ht c4
  cases ht
  have HR:=hidq hR
  clear hR h1 h2 e1 e2 e3 hP hl hfz
  simp only[List.length_nil] at c4
  go_enter Tryz.func96,Tryz.ntmps96
  go_wp2
  go_ret
  exact⟨rfl,HR.out,Kr.refl _ _ _ _⟩
 | cons k l=>
  rw[hl] at ht c4 e2 e3
  simp only[Option.some.injEq,Prod.mk.injEq] at ht
  obtain⟨rfl,rfl⟩:=ht
  rcases e3 with e3 |⟨b,off,rfl,hbL,hx⟩
  ·cases e3
  have x0:w.cell? ⟨b,off,none⟩=some (.int .i64 k):=hx 0 (by simp)
  have hbw:b<w.heap.size:=by
   rcases Nat.lt_or_ge b w.heap.size with h | h
   ·exact h
   ·simp[World.cell?,Array.getElem?_eq_none h] at x0
  obtain⟨x',hx'⟩:∃x':Option Addr,x'=if c=1 then some ⟨b,off,none⟩ else some ⟨b,off+1,none⟩:=⟨_,rfl⟩
  have HS:=hidq (hR.setL hil (l:=l) (x':=x') (c:=c - 1) (by simp at e2;omega) (by
   by_cases h1:c=1
   ·left
    simp at e2
    exact List.length_eq_zero_iff.1 (by omega)
   ·right
    exact⟨b,off+1,by rw[hx',if_neg h1],hbL,fun j hj=>by rw[Nat.add_assoc,Nat.add_comm 1 j];exact hx (j+1) (by simp;omega)⟩))
  have HX:=hidq hx'
  clear hx'
  obtain⟨_,_,_,_,hcs,_,_,⟨css,⟨ao,cb,coff,cc,rfl,hr⟩,hc1,hk⟩,_⟩:=hP.is
  simp only[List.cons.injEq,and_true] at hcs
  obtain⟨rfl,rfl,rfl,rfl⟩:=hcs
  have hic:i<css.length:=by omega
  obtain⟨lv,h3,_⟩:=hk i hi hic
  have y2:w.cell? ⟨pb,2,none⟩=some (.slice ao css.length cc):=cl hP.blk 2 rfl
  have y3:=hr.cell i hic 3 (.int .i64 P.chans[i].type) (by rw[h3];rfl)
  have hlp:=lt_of_block hP.blk
  have hadr:=hr.adr (by omega)
  have hcl:cb<L:=hr.ok (by omega)
  have hcw:=hr.lt (by omega)
  obtain⟨ty,hty⟩:∃ty,ty=P.chans[i].type:=⟨_,rfl⟩
  rw[←hty] at y3⊢
  obtain⟨cn,hcn⟩:∃n,n=css.length:=⟨_,rfl⟩
  rw[←hcn] at y2
  have hicn:i<cn:=by omega
  have hpl:=hR.pn.2
  subst hadr
  simp only[List.length_cons] at c4 e2
  obtain⟨q0,hq0⟩:∃q,q=l.length:=⟨_,rfl⟩
  rw[←hq0] at c4 e2 HS
  clear hx hk h3 hr hc1 h1 h2 e1 hR hP hl hty hcn hil hq0 hm
  go_enter Tryz.func96,Tryz.ntmps96
  go_wp2
  go_region
  all_goals rw[←HX.out]
  all_goals obtain⟨w5,hw5⟩:∃w5,w5=(w.setCell ⟨lb,i,none⟩ (.slice x' q0 (c - 1))).drew:=⟨_,rfl⟩
  all_goals rw[←hw5]
  all_goals have hk5:∀b,b≠lb→w5.heap[b]? =w.heap[b]? :=fun b hb=>by rw[hw5];exact Below.heap_setCell _ _ _ _ hb
  all_goals have hz5:w5.heap.size=w.heap.size:=by rw[hw5];simp[World.setCell,World.drew]
  all_goals have HR5:Hid (RS w5 L rb pb lb fuel lc ev {g with left:=g.left.set i l}∧Kr rb lb ev ev w w5):=by rw[hw5];exact⟨HS.out.1.drew 1,HS.out.2.trans (Kr.drew rb lb ev _ 1)⟩
  all_goals have t3:=(World.cell?_of_block (a:=⟨rb,3,none⟩) (hk5 rb hne)).trans z3
  all_goals have u2:=(World.cell?_of_block (a:=⟨pb,2,none⟩) (hk5 pb hpl)).trans y2
  all_goals have u3:=(World.cell?_of_block (a:=⟨cb,_,none⟩) (hk5 cb (by omega))).trans y3
  all_goals have v0:=(World.cell?_of_block (a:=⟨b,off,none⟩) (hk5 b (by omega))).trans x0
  all_goals have g1:rb<w5.heap.size:=by omega
  all_goals have g2:pb<w5.heap.size:=by omega
  all_goals have g3:cb<w5.heap.size:=by omega
  all_goals have g4:b<w5.heap.size:=by omega
  all_goals clear hw5 hk5 hz5 z3 z4 c4 y2 y3 x0 HS HX
  all_goals by_cases h2:ty=2
  ·subst h2
   go_wp2_with fail
   refine(bitC _ _).mono ?_
   rintro x w6 ⟨rfl,rfl⟩
   go_wp2
   go_ret
   exact⟨rfl,HR5.out⟩
  ·have hd2:(ty==2)=false:=by simpa using h2
   go_wp2
   go_ret
   exact⟨rfl,HR5.out⟩
theorem sign_any (s:ByteArray)(w:World)(h0:0<s.size)(hs:s.size≤100000):
 Calls Tryz.prog 139 #[.string s] w fun e w'=>e=.returned (.string ⟨(Lex.signF s.data.toList).toArray⟩)∧w'=w:=by
 by_cases h1:1<s.size
 ·go_enter Tryz.func139,Tryz.ntmps139
  go_wp2
  all_goals first
   |(exfalso;have hq:=‹((s.extract 0 2).toList==_)=true›;exact Lex.no_two hq (by assumption))
   |(exfalso;have hq:=‹(((s[0].toNat:Nat):Int)==_)=true›;exact Lex.no_two hq (by assumption))
   |(have hq:=‹((s.extract 0 2).toList==_)=true›;go_ret;exact⟨Lex.sign_two (Lex.two_yes hq rfl),rfl⟩)
   |(have hq:=‹(((s[0].toNat:Nat):Int)==_)=true›;have hn:=(Lex.two_no ‹((s.extract 0 2).toList==[38,38])=false› ‹((s.extract 0 2).toList==[124,124])=false› ‹((s.extract 0 2).toList==[61,61])=false› ‹((s.extract 0 2).toList==[33,61])=false› ‹((s.extract 0 2).toList==[60,61])=false› ‹((s.extract 0 2).toList==[62,61])=false›);go_ret;exact⟨Lex.sign_one h0 hn (Lex.one_yes hq rfl),rfl⟩)
   |(have hq:=(Lex.one_no ‹(((s[0].toNat:Nat):Int)==43)=false› ‹(((s[0].toNat:Nat):Int)==45)=false› ‹(((s[0].toNat:Nat):Int)==42)=false› ‹(((s[0].toNat:Nat):Int)==47)=false› ‹(((s[0].toNat:Nat):Int)==37)=false› ‹(((s[0].toNat:Nat):Int)==60)=false› ‹(((s[0].toNat:Nat):Int)==62)=false› ‹(((s[0].toNat:Nat):Int)==33)=false› ‹(((s[0].toNat:Nat):Int)==40)=false› ‹(((s[0].toNat:Nat):Int)==41)=false› ‹(((s[0].toNat:Nat):Int)==123)=false› ‹(((s[0].toNat:Nat):Int)==125)=false› ‹(((s[0].toNat:Nat):Int)==44)=false› ‹(((s[0].toNat:Nat):Int)==59)=false› ‹(((s[0].toNat:Nat):Int)==58)=false› ‹(((s[0].toNat:Nat):Int)==61)=false›);have hn:=(Lex.two_no ‹((s.extract 0 2).toList==[38,38])=false› ‹((s.extract 0 2).toList==[124,124])=false› ‹((s.extract 0 2).toList==[61,61])=false› ‹((s.extract 0 2).toList==[33,61])=false› ‹((s.extract 0 2).toList==[60,61])=false› ‹((s.extract 0 2).toList==[62,61])=false›);go_ret;exact⟨Lex.sign_no h0 hn hq,rfl⟩)
 ·have h2:=Lex.two_short s h1
  go_enter Tryz.func139,Tryz.ntmps139
  go_wp2
  all_goals first
   |(exfalso;have hq:=‹(((s[0].toNat:Nat):Int)==_)=true›;exact Lex.no_two hq (by assumption))
   |(have hq:=‹(((s[0].toNat:Nat):Int)==_)=true›;go_ret;exact⟨Lex.sign_one h0 h2 (Lex.one_yes hq rfl),rfl⟩)
   |(have hq:=(Lex.one_no ‹(((s[0].toNat:Nat):Int)==43)=false› ‹(((s[0].toNat:Nat):Int)==45)=false› ‹(((s[0].toNat:Nat):Int)==42)=false› ‹(((s[0].toNat:Nat):Int)==47)=false› ‹(((s[0].toNat:Nat):Int)==37)=false› ‹(((s[0].toNat:Nat):Int)==60)=false› ‹(((s[0].toNat:Nat):Int)==62)=false› ‹(((s[0].toNat:Nat):Int)==33)=false› ‹(((s[0].toNat:Nat):Int)==40)=false› ‹(((s[0].toNat:Nat):Int)==41)=false› ‹(((s[0].toNat:Nat):Int)==123)=false› ‹(((s[0].toNat:Nat):Int)==125)=false› ‹(((s[0].toNat:Nat):Int)==44)=false› ‹(((s[0].toNat:Nat):Int)==59)=false› ‹(((s[0].toNat:Nat):Int)==58)=false› ‹(((s[0].toNat:Nat):Int)==61)=false›);go_ret;exact⟨Lex.sign_no h0 h2 hq,rfl⟩)
end Go.Proofs.YtepkhlpjgnckkaaGreatDoor
