/- scope: proc, channel. And more of the same. -/
import Derived.Test.YtepkhlpjgnckkaaGreatDoorZA4
namespace Go.Proofs.YtepkhlpjgnckkaaGreatDoor
set_option maxRecDepth 100000
set_option maxHeartbeats 8000000
open Go.RowKit
open Par (Tr Stm Prm Chn Prc Prg Po ba)
theorem kbase {L:Nat}{w0 w:World}(h:Below L w0 w):Keeps (fun b=>b<L) w0 w:=⟨h.size,fun b hb _=>h.block b hb⟩
theorem tstP {w:World}{bb:Nat}{s nm:ByteArray}{x0 x2 x3 x4 x5 x6 x7 x8:Value}(h:w.heap[bb]? =some (.cells #[.string nm] 9 (0,0))):Calls Tryz.prog 127 #[.agg #[x0,.string s,x2,x3,x4,x5,x6,x7,x8],.pointer (some ⟨bb,0,none⟩)] w fun x w'=>x=.returned (.bool (decide (s=nm)))∧Below w.heap.size w w':=by
 have e0:w.cell? ⟨bb,0,none⟩=some (.string nm):=cl h 0 rfl
 have hl:=lt_of_block h
 have hq:=beq_dec s nm
 clear h
 go_enter Tryz.func127,Tryz.ntmps127
 go_wp2
 go_ret
 exact⟨by simp,(Below.refl _ _).alloc (Nat.le_refl _) _⟩
theorem tstH {w:World}{bb bc:Nat}{s nm:ByteArray}{i j:Bool}{x0 x3 x4:Value}(h:w.heap[bb]? =some (.cells #[.string nm] 9 (0,0)))(g:w.heap[bc]? =some (.cells #[.bool j] 4 (0,0))):Calls Tryz.prog 175 #[.agg #[x0,.string s,.bool i,x3,x4],.pointer (some ⟨bb,0,none⟩),.pointer (some ⟨bc,0,none⟩)] w fun x w'=>x=.returned (.bool (decide (s=nm∧i=j)))∧Below w.heap.size w w':=by
 have e0:w.cell? ⟨bb,0,none⟩=some (.string nm):=cl h 0 rfl
 have e1:w.cell? ⟨bc,0,none⟩=some (.bool j):=cl g 0 rfl
 have hl:=lt_of_block h
 have hm:=lt_of_block g
 have hq:=beq_dec s nm
 clear h g
 by_cases he:s=nm
 ·have hd:decide (s=nm)=true:=by simpa using he
  go_enter Tryz.func175,Tryz.ntmps175
  go_wp2
  go_ret
  refine⟨?_,(Below.refl _ _).alloc (Nat.le_refl _) _⟩
  cases i<;>cases j<;>simp[he]
 ·have hd:decide (s=nm)=false:=by simpa using he
  go_enter Tryz.func175,Tryz.ntmps175
  go_wp2
  go_ret
  refine⟨?_,(Below.refl _ _).alloc (Nat.le_refl _) _⟩
  simp[he]
theorem findCh_first {l:List Chn}{s:ByteArray}{b:Bool}{t:Int}(h:Sk.findCh l s b=some t):∃i,∃hi:i<l.length,l[i].type=t∧(l[i].name=s∧l[i].inw=b)∧∀j (hj:j<i),¬(l[j].name=s∧l[j].inw=b):=by
 induction l with
 | nil=>cases h
 | cons x l ih=>
  unfold Sk.findCh at h
  split at h
  ·rename_i e
   cases h
   exact⟨0,by simp,rfl,e,fun j hj=>by omega⟩
  ·rename_i e
   obtain⟨i,hi,h1,h2,h3⟩:=ih h
   refine⟨i+1,by simp;omega,h1,h2,fun j hj=> ?_⟩
   cases j with
   | zero=>exact e
   | succ j=>exact h3 j (by omega)
theorem scProcK {w0 w:World}{L kb pb:Nat}{X:Nat→Prop}{P:Prg}{vs vk:Sk.Vs}{f:Nat}{u:Bool}{N:Nat}{cv av nv qv:Value}(hB:Lb w0 L pb P cv av nv qv)(h:Lk w0 w L kb pb X P vs vk f u N){s:ByteArray}{q:Prc}(hq:Rr.findP P.procs s=some q)(p:Int):
 Calls Tryz.prog 89 #[.pointer (some ⟨kb,0,none⟩),.string s,.int .i64 p] w fun x w'=>∃b off cs,x=.returned (.pointer (some ⟨b,off,none⟩))∧At w0 (fun b=>b<L) b off cs∧PcIs w0 (fun b=>b<L) q cs∧Pln w0 b∧Below w.heap.size w w':=by
 have hmf:=mkF
 obtain⟨i,hi,rfl,hs,hj⟩:=findP_first hq
 obtain⟨_,_,_,_,hcs,_,_,_,css,⟨ao,b,off,c,rfl,hr⟩,hc1,hk⟩:=hB.is
 simp only[List.cons.injEq,and_true] at hcs
 obtain⟨rfl,rfl,rfl,rfl⟩:=hcs
 obtain⟨vo,vc,mk,ma,mr,K,hE⟩:=h
 have hrw:=hr.keeps (kbase hE.bel)
 have hnm:∀k (h1:k<css.length) (h2:k<P.procs.length),∃x0 x2 x3 x4 x5 x6 x7 x8,css[k]=[x0,.string P.procs[k].name,x2,x3,x4,x5,x6,x7,x8]:=fun k h1 h2=>by
  obtain⟨pv,rl,bv,fv,yv,h3,_⟩:=hk k h2 h1
  exact⟨_,_,_,_,_,_,_,_,h3⟩
 obtain⟨t,ht⟩:∃t:Array Value→Bool,t=fun x=>match (x[1]? :Option Value) with | some (.string a)=>decide (a=s)| _=>false:=⟨_,rfl⟩
 have htv:∀x0 a x2 x3 x4 x5 x6 x7 x8,t #[x0,.string a,x2,x3,x4,x5,x6,x7,x8]=decide (a=s):=fun _ _ _ _ _ _ _ _ _=>by rw[ht];rfl
 have HF:Hid (firstI t (css.map List.toArray)=(i:Int)):=by
  refine firstI_hit (by simp;omega) (fun x hx=> ?_) ?_
  ·obtain⟨j,hj1,rfl⟩:=List.mem_iff_getElem.1 hx
   simp at hj1
   simp only[List.getElem_take,List.getElem_map]
   obtain⟨x0,x2,x3,x4,x5,x6,x7,x8,e⟩:=hnm j (by omega) (by omega)
   rw[e]
   exact(htv _ _ _ _ _ _ _ _ _).trans (by simpa using hj j (by omega))
  ·simp only[List.getElem_map]
   obtain⟨x0,x2,x3,x4,x5,x6,x7,x8,e⟩:=hnm i (by omega) hi
   rw[e]
   exact(htv _ _ _ _ _ _ _ _ _).trans (by simpa using hs)
 obtain⟨w2,hw2⟩:∃w2,w2=w.alloc (.cells #[.string s] 9):=⟨_,rfl⟩
 have hb2:=al1 hw2
 have hidx:=indexFuncQ 127 #[.pointer (some ⟨w.heap.size,0,none⟩)] (enters_of Tryz.func127 (by kernel_rfl) rfl) t ao b off css.length c (css.map List.toArray) w2 (by simp) (by have:=hB.few.2;omega) (hrw.rws.later hb2) (fun W x hx hW=>by
  obtain⟨y,hy,rfl⟩:=List.mem_map.1 hx
  obtain⟨k,hk1,rfl⟩:=List.getElem_of_mem hy
  obtain⟨x0,x2,x3,x4,x5,x6,x7,x8,e⟩:=hnm k hk1 (by omega)
  rw[e]
  show Calls _ _ _ _ fun e w'=>e=.returned (.bool (t #[x0,.string P.procs[k].name,x2,x3,x4,x5,x6,x7,x8]))∧_
  rw[htv]
  exact tstP (ku hW (aa hw2)))
 rw[HF.out] at hidx
 have hic:i<css.length:=by omega
 have HAT:Hid (At w0 (fun b=>b<L) b (off+i*9) css[i]∧PcIs w0 (fun b=>b<L) P.procs[i] css[i]∧Pln w0 b):=⟨hr.at hic,hk i hi hic,hr.pl (by omega)⟩
 have z3:=hE.cells.1
 have hlr:=hE.cells.2.2.2.2.2.2.1
 have hpw:w.heap[pb]? =w0.heap[pb]? :=hE.bel.block pb hB.pl
 have y3:w.cell? ⟨pb,3,none⟩=some (.slice ao css.length c):=cl (hpw.trans hB.blk) 3 rfl
 have hlp:=lt_of_block (hpw.trans hB.blk)
 have hadr:=hr.adr (by omega)
 have hbl:=hrw.lt (by omega)
 obtain⟨n,hn⟩:∃n,n=css.length:=⟨_,rfl⟩
 have hm:n≤1000:=by have:=hB.few.2;omega
 rw[←hn] at hidx y3
 have hin:i<n:=by omega
 have hti:=fun p w=>tellIfC 5 p w
 have HB2:=hidq hb2
 clear hb2 hnm htv ht hj hk hc1 hB hr hrw hs hn hE HF hpw hq
 subst hadr
 go_enter Tryz.func89,Tryz.ntmps89
 go_wp2_with fail
 rw[←hw2]
 clear hw2
 refine hidx.mono ?_
 rintro x w3 ⟨rfl,hb3⟩
 have hb:=bu HB2.out hb3
 have z4:=(hb.cell (p:=⟨kb,0,none⟩) hlr).trans z3
 have y4:=(hb.cell (p:=⟨pb,3,none⟩) hlp).trans y3
 have hl1:kb<w3.heap.size:=Nat.lt_of_lt_of_le hlr hb.size
 have hl2:pb<w3.heap.size:=Nat.lt_of_lt_of_le hlp hb.size
 have hl3:b<w3.heap.size:=Nat.lt_of_lt_of_le hbl hb.size
 have HB:=hidq hb
 have hd0:decide ((i:Int)<0)=false:=by simp
 clear hidx hb3 hb z3 y3 hlr hlp hbl
 go_wp2_with fail
 refine(hti p w3).mono ?_
 rintro x w4 ⟨rfl,rfl⟩
 go_wp2
 go_ret
 exact⟨_,_,_,rfl,HAT.out.1,HAT.out.2.1,HAT.out.2.2,HB.out⟩
theorem channelK {w0 w:World}{L kb pb:Nat}{X:Nat→Prop}{P:Prg}{vs vk:Sk.Vs}{f:Nat}{u:Bool}{N:Nat}{cv av nv qv:Value}(hB:Lb w0 L pb P cv av nv qv)(h:Lk w0 w L kb pb X P vs vk f u N){s:ByteArray}{io:Bool}{ty:Int}(hq:Sk.findCh P.chans s io=some ty)(p:Int):
 Calls Tryz.prog 160 #[.pointer (some ⟨kb,0,none⟩),.string s,.bool io,.int .i64 p] w fun x w'=>x=.returned (.int .i64 ty)∧Below w.heap.size w w':=by
 have hmf:=mkF
 obtain⟨i,hi,rfl,hs,hj⟩:=findCh_first hq
 obtain⟨_,_,_,_,hcs,_,_,⟨css,⟨ao,b,off,c,rfl,hr⟩,hc1,hk⟩,_⟩:=hB.is
 simp only[List.cons.injEq,and_true] at hcs
 obtain⟨rfl,rfl,rfl,rfl⟩:=hcs
 obtain⟨vo,vc,mk,ma,mr,K,hE⟩:=h
 have hrw:=hr.keeps (kbase hE.bel)
 have hnm:∀k (h1:k<css.length) (h2:k<P.chans.length),∃x0 x4,css[k]=[x0,.string P.chans[k].name,.bool P.chans[k].inw,.int .i64 P.chans[k].type,x4]:=fun k h1 h2=>by
  obtain⟨lv,h3,_⟩:=hk k h2 h1
  exact⟨_,_,h3⟩
 obtain⟨t,ht⟩:∃t:Array Value→Bool,t=fun x=>match (x[1]? :Option Value),(x[2]? :Option Value) with | some (.string a),some (.bool d)=>decide (a=s∧d=io)| _,_=>false:=⟨_,rfl⟩
 have htv:∀x0 a d x3 x4,t #[x0,.string a,.bool d,x3,x4]=decide (a=s∧d=io):=fun _ _ _ _ _=>by rw[ht];rfl
 have HF:Hid (firstI t (css.map List.toArray)=(i:Int)):=by
  refine firstI_hit (by simp;omega) (fun x hx=> ?_) ?_
  ·obtain⟨j,hj1,rfl⟩:=List.mem_iff_getElem.1 hx
   simp at hj1
   simp only[List.getElem_take,List.getElem_map]
   obtain⟨x0,x4,e⟩:=hnm j (by omega) (by omega)
   rw[e]
   exact(htv _ _ _ _ _).trans (decide_eq_false (hj j (by omega)))
  ·simp only[List.getElem_map]
   obtain⟨x0,x4,e⟩:=hnm i (by omega) hi
   rw[e]
   exact(htv _ _ _ _ _).trans (decide_eq_true hs)
 obtain⟨w2,hw2⟩:∃w2,w2=(w.alloc (.cells #[.string s] 9)).alloc (.cells #[.bool io] 4):=⟨_,rfl⟩
 have hb2:=al2 hw2
 have hidx:=indexFuncC 175 #[.pointer (some ⟨w.heap.size,0,none⟩),.pointer (some ⟨w.heap.size+1,0,none⟩)] (enters_of Tryz.func175 (by kernel_rfl) rfl) t ao b off css.length c (css.map List.toArray) w2 (by simp) (by have:=hB.few.1;omega) (hrw.rws.later hb2) (fun W x hx hW=>by
  obtain⟨y,hy,rfl⟩:=List.mem_map.1 hx
  obtain⟨k,hk1,rfl⟩:=List.getElem_of_mem hy
  obtain⟨x0,x4,e⟩:=hnm k hk1 (by omega)
  rw[e]
  show Calls _ _ _ _ fun e w'=>e=.returned (.bool (t #[x0,.string P.chans[k].name,.bool P.chans[k].inw,.int .i64 P.chans[k].type,x4]))∧_
  rw[htv]
  exact tstH (ku hW (ab hw2)) (ku hW (ac hw2)))
 rw[HF.out] at hidx
 have hic:i<css.length:=by omega
 obtain⟨x0,x4,e⟩:=hnm i hic hi
 have yt:=hrw.cell i hic 3 _ (by rw[e];rfl)
 have z3:=hE.cells.1
 have hlr:=hE.cells.2.2.2.2.2.2.1
 have hpw:w.heap[pb]? =w0.heap[pb]? :=hE.bel.block pb hB.pl
 have y3:w.cell? ⟨pb,2,none⟩=some (.slice ao css.length c):=cl (hpw.trans hB.blk) 2 rfl
 have hlp:=lt_of_block (hpw.trans hB.blk)
 have hadr:=hr.adr (by omega)
 have hbl:=hrw.lt (by omega)
 obtain⟨n,hn⟩:∃n,n=css.length:=⟨_,rfl⟩
 have hm:n≤1000:=by have:=hB.few.1;omega
 rw[←hn] at hidx y3
 have hin:i<n:=by omega
 have hti:=fun p w=>tellIfC 5 p w
 have HB2:=hidq hb2
 obtain⟨ty,hty⟩:∃t,t=P.chans[i].type:=⟨_,rfl⟩
 rw[←hty] at yt⊢
 clear hb2 hnm htv ht hj hk hc1 hB hr hrw hs hn hE HF hpw hq e hty
 subst hadr
 go_enter Tryz.func160,Tryz.ntmps160
 go_wp2_with fail
 rw[←hw2]
 clear hw2
 refine hidx.mono ?_
 rintro x w3 ⟨rfl,hb3⟩
 have hb:=bu HB2.out hb3
 have z4:=(hb.cell (p:=⟨kb,0,none⟩) hlr).trans z3
 have y4:=(hb.cell (p:=⟨pb,2,none⟩) hlp).trans y3
 have t4:=(hb.cell (p:=⟨b,_,none⟩) hbl).trans yt
 have hl1:kb<w3.heap.size:=Nat.lt_of_lt_of_le hlr hb.size
 have hl2:pb<w3.heap.size:=Nat.lt_of_lt_of_le hlp hb.size
 have hl3:b<w3.heap.size:=Nat.lt_of_lt_of_le hbl hb.size
 have HB:=hidq hb
 have hd0:decide ((i:Int)<0)=false:=by simp
 clear hidx hb3 hb z3 y3 hlr hlp hbl yt
 go_wp2_with fail
 refine(hti p w3).mono ?_
 rintro x w4 ⟨rfl,rfl⟩
 go_wp2
 go_ret
 exact⟨rfl,HB.out⟩
def AtX (w0:World)(L b off:Nat)(x:Tr):Prop:=∃cs,At w0 (fun b=>b<L) b off cs∧TrIs w0 (fun b=>b<L) x cs∧Pln w0 b
def TyC (w0:World)(L kb pb:Nat)(P:Prg)(m:Nat):Prop:=
 ∀(w:World) (X:Nat→Prop) (vs:Sk.Vs) (f:Nat) (u:Bool) (N b off:Nat) (x:Tr) (t:Int),Lk w0 w L kb pb X P vs vs f u N→AtX w0 L b off x→Sk.typ P vs m x=some t→N+Sk.kst m<1000000000→
  Calls Tryz.prog 172 #[.pointer (some ⟨kb,0,none⟩),.pointer (some ⟨b,off,none⟩)] w fun r w'=>r=.returned (.int .i64 t)∧Lk w0 w' L kb pb X P vs vs f u (N+Sk.kst m)∧Kx X w w'
theorem Lk.bel {w0 w:World}{L kb pb:Nat}{X:Nat→Prop}{P:Prg}{vs vk:Sk.Vs}{f:Nat}{u:Bool}{N:Nat}(h:Lk w0 w L kb pb X P vs vk f u N):Below L w0 w:=by
 obtain⟨_,_,_,_,_,_,h⟩:=h
 exact h.bel
theorem tr_cells {w0 w:World}{L b off:Nat}{k p c t:Int}{s:ByteArray}{l:List Po}{a:List Tr}(hx:AtX w0 L b off (.mk k p c t s l a))(hb:Below L w0 w):∃lo lc ao ac,(w.cell? ⟨b,off,none⟩=some (.int .i64 k)∧w.cell? ⟨b,off+1,none⟩=some (.int .i64 p)∧w.cell? ⟨b,off+3,none⟩=some (.int .i64 t)∧w.cell? ⟨b,off+4,none⟩=some (.string s)∧w.cell? ⟨b,off+5,none⟩=some (.slice lo l.length lc)∧w.cell? ⟨b,off+6,none⟩=some (.slice ao a.length ac)∧b<w.heap.size):=by
 obtain⟨cs,h1,h2,_⟩:=hx
 have h3:=h1.keeps (kbase hb)
 cases h2 with
 | mk hs hl hr hc hk=>
  obtain⟨lo,lc,rfl⟩:=hl.val
  obtain⟨ao,ac,rfl⟩:=hr.val
  refine⟨lo,lc,ao,ac,h3.cell 0 _ rfl,h3.cell 1 _ rfl,h3.cell 3 _ rfl,h3.cell 4 _ rfl,h3.cell 5 _ rfl,?_,h3.lt⟩
  rw[←hc]
  exact h3.cell 6 _ rfl
theorem tr_parts {w0:World}{L b off:Nat}{k p c t:Int}{s:ByteArray}{l:List Po}{a:List Tr}(hx:AtX w0 L b off (.mk k p c t s l a)):s.size≤maxLen∧∃ao xb xoff ac,(∀w,Below L w0 w→w.cell? ⟨b,off+6,none⟩=some (.slice ao a.length ac))∧(0<a.length→ao=some ⟨xb,xoff,none⟩∧xb<L∧xb<w0.heap.size)∧a.length≤ac∧∀i (h:i<a.length),AtX w0 L xb (xoff+i*7) a[i]:=by
 obtain⟨cs,h1,h2,_⟩:=hx
 cases h2 with
 | mk hs hl hr hc hk=>
  obtain⟨ao,xb,xoff,ac,rfl,hrow⟩:=hr
  refine⟨hs,ao,xb,xoff,ac,fun w hw=> ?_,fun hp=>⟨hrow.adr (by omega),hrow.ok (by omega),hrow.lt (by omega)⟩,by have:=hrow.cap;omega,fun i hi=> ?_⟩
  ·rw[←hc]
   exact(h1.keeps (kbase hw)).cell 6 _ rfl
  ·exact⟨_,hrow.at (by omega),hk i hi (by omega),hrow.pl (by omega)⟩
theorem mustK {w0:World}{L kb pb:Nat}{P:Prg}{m:Nat}(hT:TyC w0 L kb pb P m){w:World}{X:Nat→Prop}{vs:Sk.Vs}{f:Nat}{u:Bool}{N b off:Nat}{x:Tr}{t:Int}(h:Lk w0 w L kb pb X P vs vs f u N)(hx:AtX w0 L b off x)(ht:Sk.typ P vs m x=some t)(hN:N+Sk.kst m<1000000000):
 Calls Tryz.prog 157 #[.pointer (some ⟨kb,0,none⟩),.pointer (some ⟨b,off,none⟩),.int .i64 t] w fun r w'=>r=.returned (.tuple #[])∧Lk w0 w' L kb pb X P vs vs f u (N+Sk.kst m)∧Kx X w w':=by
 obtain⟨k,p,c,ty,s,l,a⟩:=x
 have HCALL:Hid (∀W,Below w.heap.size w W→Calls Tryz.prog 172 #[.pointer (some ⟨kb,0,none⟩),.pointer (some ⟨b,off,none⟩)] W fun r w'=>r=.returned (.int .i64 t)∧Hid (Lk w0 w' L kb pb X P vs vs f u (N+Sk.kst m)∧Kx X w w')):=fun W hW=>by
  have h1:=h.later hW
  refine(hT W X vs f u N b off _ t h1.1 hx ht hN).mono ?_
  rintro r w' ⟨rfl,h2,h3⟩
  exact⟨rfl,h2,h1.2.trans h3⟩
 have HC:Hid (∀W,Below L w0 W→W.cell? ⟨b,off+1,none⟩=some (.int .i64 p)∧b<W.heap.size):=fun W hW=>by
  obtain⟨_,_,_,_,_,h1,_,_,_,_,h2⟩:=tr_cells hx hW
  exact⟨h1,h2⟩
 obtain⟨c0,cl0⟩:=HC.out w h.bel
 have hti:=fun p w=>tellIfC 7 p w
 have hne:(t !=t)=false:=by simp
 clear h hx ht hT
 go_enter Tryz.func157,Tryz.ntmps157
 go_upto_region 0 with fail
 go_region_held3 (fun W=>W.cell? ⟨b,off+1,none⟩=some (.int .i64 p)) (go_keep)
  (first
    |(go_at_call 172;refine(HCALL.out _ (by exact⟨rfl,rfl,rfl,Nat.le_refl _,fun _ _=>rfl⟩)).mono ?_;rintro x w1 ⟨rfl,H1⟩;obtain⟨c1,cl1⟩:=HC.out w1 H1.out.1.bel)
    |(go_at_call 90;refine(hti _ _).mono ?_;rintro x w2 ⟨rfl,hw2⟩;have hw2':=hw2.symm;subst hw2';clear hw2))
 go_wp2
 go_end0
 first
  | exact⟨rfl,H1.out⟩
  | exact⟨rfl,(H1.out.1.later (below_drewN _ _)).1,H1.out.2.trans (H1.out.1.later (below_drewN _ _)).2⟩
theorem allT_at {T:Tr→Option Int}:∀{a:List Tr} {ts:List Int},Sk.allT T a ts=true→a.length=ts.length∧∀i (h:i<a.length) (h':i<ts.length),T a[i]=some ts[i]:=by
 intro a
 induction a with
 | nil=>
  intro ts h
  cases ts with
  | nil=>exact⟨rfl,fun i h=>by simp at h⟩
  | cons t ts=>cases h
 | cons x a ih=>
  intro ts h
  cases ts with
  | nil=>cases h
  | cons t ts=>
   rw[Sk.allT,Bool.and_eq_true,decide_eq_true_eq] at h
   obtain⟨h1,h2⟩:=ih h.2
   refine⟨by simp[h1],fun i hi hi'=> ?_⟩
   cases i with
   | zero=>exact h.1
   | succ i=>exact h2 i (by simpa using hi) (by simpa using hi')
theorem allMustK {w0:World}{L kb pb:Nat}{P:Prg}{m:Nat}(hT:TyC w0 L kb pb P m){w:World}{X:Nat→Prop}{vs:Sk.Vs}{f:Nat}{u:Bool}{N xb xoff ac:Nat}{ao:Option Addr}{a:List Tr}{t:Int}(h:Lk w0 w L kb pb X P vs vs f u N)(hao:0<a.length→ao=some ⟨xb,xoff,none⟩∧xb<L∧xb<w0.heap.size)(hx:∀i (h:i<a.length),AtX w0 L xb (xoff+i*7) a[i])(hal:a.length≤8)(ht:∀i (h:i<a.length),Sk.typ P vs m a[i]=some t)(hN:N+8*Sk.kst m<1000000000):
 Calls Tryz.prog 203 #[.pointer (some ⟨kb,0,none⟩),.slice ao a.length ac,.int .i64 t] w fun r w'=>r=.returned (.tuple #[])∧Lk w0 w' L kb pb X P vs vs f u (N+8*Sk.kst m)∧Kx X w w':=by
 obtain⟨n,hn⟩:∃n,n=a.length:=⟨_,rfl⟩
 rw[←hn]
 have HN:=hidq hn
 have HX:=hidq hx
 have HT:=hidq hT
 have HTT:=hidq ht
 have HAO:=hidq hao
 have HI0:Hid (Lk w0 w L kb pb X P vs vs f u (N+0*Sk.kst m)∧Kx X w w):=⟨h.more (by omega),Kx.refl _ _⟩
 have hn8:n≤8:=by omega
 clear h hx hao ht hT hn
 go_enter Tryz.func203,Tryz.ntmps203
 go_wp2
 go_loopw [9] (fun i wr=>∃k:Nat,k≤n∧i=.int .i64 k∧Hid (Lk w0 wr L kb pb X P vs vs f u (N+k*Sk.kst m)∧Kx X w wr)) (fun i _=>n - (intOf i).toNat)
 case atStart=>exact⟨0,Nat.zero_le _,rfl,HI0⟩
 case round=>
  clear HI0
  obtain⟨k,hk,rfl,HI⟩:=hrel
  have hmul:k*Sk.kst m≤8*Sk.kst m:=Nat.mul_le_mul_right _ (by omega)
  by_cases hlt:k<n
  ·have hka:k<a.length:=by have:=HN.out;omega
   obtain⟨h1,h2,h3⟩:=HAO.out (by omega)
   have hm2:(k+1)*Sk.kst m≤8*Sk.kst m:=Nat.mul_le_mul_right _ (by omega)
   rw[Nat.succ_mul] at hm2
   have hcall:=mustK HT.out HI.out.1 (HX.out k hka) (HTT.out k hka) (by omega)
   have hxl:xb<wr.heap.size:=Nat.lt_of_lt_of_le h3 HI.out.1.bel.size
   have HNX:Hid (∀w1,Lk w0 w1 L kb pb X P vs vs f u (N+k*Sk.kst m+Sk.kst m)→Kx X wr w1→Lk w0 w1 L kb pb X P vs vs f u (N+(k+1)*Sk.kst m)∧Kx X w w1):=fun w1 q1 q2=>⟨by rw[Nat.succ_mul,←Nat.add_assoc];exact q1,HI.out.2.trans q2⟩
   subst h1
   go_wp2_with fail
   refine hcall.mono ?_
   rintro x w1 ⟨rfl,q1,q2⟩
   have H1:=hidq (HNX.out w1 q1 q2)
   clear q1 q2 hcall
   go_wp2
   go_roundw
   case rel=>exact⟨k+1,by omega,by go_num,H1⟩
   case measure=>simp[intOf];omega
  ·obtain rfl:k=n:=by omega
   go_wp2
   go_end0
   exact⟨rfl,HI.out.1.more (by omega),HI.out.2⟩
theorem callK {w0:World}{L kb pb:Nat}{P:Prg}{m:Nat}{cv av nv qv:Value}(hB:Lb w0 L pb P cv av nv qv)(hT:TyC w0 L kb pb P m){w:World}{X:Nat→Prop}{vs:Sk.Vs}{f:Nat}{u:Bool}{N b off:Nat}{k p c ty:Int}{s:ByteArray}{l:List Po}{a:List Tr}{q:Prc}(h:Lk w0 w L kb pb X P vs vs f u N)(hx:AtX w0 L b off (.mk k p c ty s l a))(hq:Rr.findP P.procs s=some q)(ha8:a.length≤8)(hal:a.length=q.params.length)(hty:Sk.allT (Sk.typ P vs m) a (q.params.map (·.type))=true)(hN:N+8*Sk.kst m<1000000000):
 Calls Tryz.prog 161 #[.pointer (some ⟨kb,0,none⟩),.pointer (some ⟨b,off,none⟩)] w fun r w'=>∃b' off',r=.returned (.pointer (some ⟨b',off',none⟩))∧Hid ((∃cs,At w0 (fun b=>b<L) b' off' cs∧PcIs w0 (fun b=>b<L) q cs)∧Lk w0 w' L kb pb X P vs vs f u (N+8*Sk.kst m)∧Kx X w w'):=by
 obtain⟨hsz,ao,xb,xoff,ac,hcell,hao,hcap,hxs⟩:=tr_parts hx
 obtain⟨_,_,_,_,_,c1,_,c4,_,_,cbl⟩:=tr_cells hx h.bel
 have c6:=hcell w h.bel
 have HCE:Hid (∀W,Below L w0 W→W.cell? ⟨b,off+1,none⟩=some (.int .i64 p)∧W.cell? ⟨b,off+4,none⟩=some (.string s)∧W.cell? ⟨b,off+6,none⟩=some (.slice ao a.length ac)∧b<W.heap.size):=fun W hW=>by
  obtain⟨_,_,_,_,_,h1,_,h4,_,_,hl⟩:=tr_cells hx hW
  exact⟨h1,h4,hcell W hW,hl⟩
 have HPR:Hid (∀W,Below w.heap.size w W→Calls Tryz.prog 89 #[.pointer (some ⟨kb,0,none⟩),.string s,.int .i64 p] W fun x w'=>∃b' off',x=.returned (.pointer (some ⟨b',off',none⟩))∧Hid ((∃cs,At w0 (fun b=>b<L) b' off' cs∧PcIs w0 (fun b=>b<L) q cs)∧Lk w0 w' L kb pb X P vs vs f u N∧Kx X w w')):=fun W hW=>by
  have h1:=h.later hW
  refine(scProcK hB h1.1 hq p).mono ?_
  rintro x w' ⟨b',off',cs,rfl,h2,h3,_,h5⟩
  have h6:=h1.1.later h5
  exact⟨b',off',rfl,⟨cs,h2,h3⟩,h6.1,h1.2.trans h6.2⟩
 obtain⟨hl1,hl2⟩:=allT_at hty
 have HMU:Hid (∀(W:World) (i:Nat) (N':Nat) (h:i<a.length) (h':i<q.params.length),Lk w0 W L kb pb X P vs vs f u N'→N'+Sk.kst m<1000000000→Calls Tryz.prog 157 #[.pointer (some ⟨kb,0,none⟩),.pointer (some ⟨xb,xoff+i*7,none⟩),.int .i64 (q.params[i]).type] W fun r w'=>r=.returned (.tuple #[])∧Lk w0 w' L kb pb X P vs vs f u (N'+Sk.kst m)∧Kx X W w'):=fun W i N' hi hi' q1 q2=>by
  refine mustK hT q1 (hxs i hi) ?_ q2
  have:=hl2 i hi (by simpa using hi')
  simpa using this
 have HAO:=hidq hao
 have HL:=hidq h.bel
 have hti:=fun p w=>tellIfC 4 p w
 have hneq:((a.length:Int) !=(q.params.length:Int))=false:=by rw[hal];simp
 obtain⟨n,hn⟩:∃n,n=a.length:=⟨_,rfl⟩
 have HN:Hid (n=a.length∧n=q.params.length):=⟨hn,by omega⟩
 have hn8:n≤8:=by omega
 have hneq:((n:Int) !=(n:Int))=false:=by simp
 rw[←hn] at c6 HCE
 clear h hx hao hxs hT hB hty hl1 hl2 hq hal hcell hn ha8
 go_enter Tryz.func161,Tryz.ntmps161
 go_upto_region 1 with fail
 go_region_held3 (fun W=>W.cell? ⟨b,off+1,none⟩=some (.int .i64 p)∧W.cell? ⟨b,off+4,none⟩=some (.string s)) (go_keep)
  (first
    |(go_at_call 89;refine(HPR.out _ (by exact⟨rfl,rfl,rfl,Nat.le_refl _,fun _ _=>rfl⟩)).mono ?_;rintro x w1 ⟨b',off',rfl,H1⟩;obtain⟨d1,d4,d6,dbl⟩:=HCE.out w1 H1.out.2.1.bel))
 have HPM:Hid (∃pv,(∀W,Below L w0 W→W.cell? ⟨b',off'+2,none⟩=some pv∧b'<W.heap.size)∧RwV PmIs w0 (fun b=>b<L) 3 pv q.params):=by
  obtain⟨cs,h1,pv,rl,bv,fv,yv,rfl,_,_,h2,_⟩:=H1.out.1
  exact⟨pv,fun W hW=>⟨(h1.keeps (kbase hW)).cell 2 _ rfl,(h1.keeps (kbase hW)).lt⟩,h2⟩
 obtain⟨pv,hpv,css,⟨po,qb,qoff,qc,rfl,hrow⟩,hqc,hqk⟩:=HPM.out
 have hcl:css.length=n:=by have:=HN.out.2;omega
 rw[hcl] at hpv
 have HPV:=hidq hpv
 obtain⟨g2,gl⟩:=hpv w1 H1.out.2.1.bel
 have HPO:Hid (0<n→po=some ⟨qb,qoff,none⟩∧qb<L∧qb<w0.heap.size):=fun hp=>⟨hrow.adr (by omega),hrow.ok (by omega),hrow.lt (by omega)⟩
 have HPC:Hid (∀W (i:Nat) (hi:i<n) (hi':i<q.params.length),Below L w0 W→∃lo ll lcp,W.cell? ⟨qb,qoff+i*3,none⟩=some (.string q.params[i].name)∧W.cell? ⟨qb,qoff+i*3+1,none⟩=some (.int .i64 q.params[i].type)∧W.cell? ⟨qb,qoff+i*3+2,none⟩=some (.slice lo ll lcp)):=fun W i hi hi' hW=>by
  have hr:=hrow.keeps (kbase hW)
  obtain⟨lv,e,_,hlv⟩:=hqk i hi' (by omega)
  obtain⟨lo,lcp,rfl⟩:=hlv.val
  exact⟨lo,_,lcp,hr.cell i (by omega) 0 _ (by rw[e];rfl),hr.cell i (by omega) 1 _ (by rw[e];rfl),hr.cell i (by omega) 2 _ (by rw[e];rfl)⟩
 clear hpv hrow hqc hqk hcl HPM
 go_wp2
 go_region_held3 (fun W=>W.cell? ⟨b,off+1,none⟩=some (.int .i64 p)∧W.cell? ⟨b,off+6,none⟩=some (.slice ao n ac)∧W.cell? ⟨b',off'+2,none⟩=some (.slice po n qc)) (go_keep)
  (first
    |(go_at_call 90;refine(hti _ _).mono ?_;rintro x w2 ⟨rfl,hw2⟩;have hw2':=hw2.symm;subst hw2';clear hw2))
 have HI0:Hid (Lk w0 w1.drew L kb pb X P vs vs f u (N+0*Sk.kst m)∧Kx X w w1.drew):=by
  have h2:=H1.out.2.1.later (show Below w1.heap.size w1 w1.drew from(Below.refl _ _).drew)
  exact⟨h2.1.more (by omega),H1.out.2.2.trans h2.2⟩
 clear d1 d4 d6 dbl c1 c4 c6 cbl
 go_wp2
 clear g2 gl
 go_loopw [39] (fun i wr=>∃k:Nat,k≤n∧i=.int .i64 k∧Hid (Lk w0 wr L kb pb X P vs vs f u (N+k*Sk.kst m)∧Kx X w wr)) (fun i _=>n - (intOf i).toNat)
 case atStart=>exact⟨0,Nat.zero_le _,rfl,HI0⟩
 case round=>
  clear HI0
  obtain⟨k',hk,rfl,HI⟩:=hrel
  have hmul:k'*Sk.kst m≤8*Sk.kst m:=Nat.mul_le_mul_right _ (by omega)
  by_cases hlt:k'<n
  ·have hka:k'<a.length:=by have:=HN.out;omega
   have hkq:k'<q.params.length:=by have:=HN.out;omega
   obtain⟨h1,h2,h3⟩:=HAO.out (by omega)
   obtain⟨q1,q2,q3⟩:=HPO.out (by omega)
   have hbelr:=HI.out.1.bel
   obtain⟨lo,ll,lcp,p0,p1,p2⟩:=HPC.out wr k' hlt hkq hbelr
   have hm2:(k'+1)*Sk.kst m≤8*Sk.kst m:=Nat.mul_le_mul_right _ (by omega)
   rw[Nat.succ_mul] at hm2
   have hql:qb<wr.heap.size:=Nat.lt_of_lt_of_le q3 hbelr.size
   obtain⟨nm,hnm⟩:∃x,x=q.params[k'].name:=⟨_,rfl⟩
   obtain⟨pt,hpt⟩:∃x,x=q.params[k'].type:=⟨_,rfl⟩
   rw[←hnm] at p0
   rw[←hpt] at p1
   obtain⟨w2,hw2⟩:∃w2,w2=wr.alloc (.cells #[.string nm,.int .i64 pt,.slice lo ll lcp] 85):=⟨_,rfl⟩
   have hlk2:=HI.out.1.later (al1 hw2)
   have HMC:Hid (∀W,Below w2.heap.size w2 W→Calls Tryz.prog 157 #[.pointer (some ⟨kb,0,none⟩),.pointer (some ⟨xb,xoff+k'*7,none⟩),.int .i64 pt] W fun r w'=>r=.returned (.tuple #[])∧Hid (Lk w0 w' L kb pb X P vs vs f u (N+(k'+1)*Sk.kst m)∧Kx X w w'∧Kx X w2 w')):=fun W hW=>by
    have h4:=hlk2.1.later hW
    rw[hpt]
    refine(HMU.out W k' _ hka hkq h4.1 (by omega)).mono ?_
    rintro r w' ⟨rfl,h5,h6⟩
    exact⟨rfl,by rw[Nat.succ_mul,←Nat.add_assoc];exact h5,HI.out.2.trans (hlk2.2.trans (h4.2.trans h6)),h4.2.trans h6⟩
   have HT2:Hid (w2.heap[wr.heap.size]? =some (.cells #[.string nm,.int .i64 pt,.slice lo ll lcp] 85 (0,0))):=aa hw2
   have t1:w2.cell? ⟨wr.heap.size,1,none⟩=some (.int .i64 pt):=cl HT2.out 1 rfl
   have tl:=lt_of_block HT2.out
   have HNX:Hid (¬X wr.heap.size):=fun hx=>by obtain⟨_,_,_,_,_,_,h⟩:=HI.out.1;have:=(h.up _ hx).2;omega
   obtain⟨_,_,e6,el⟩:=HCE.out w2 hlk2.1.bel
   have hxl:xb<w2.heap.size:=Nat.lt_of_lt_of_le h3 hlk2.1.bel.size
   clear hlk2 hnm hpt hbelr
   subst h1
   subst q1
   go_upto_region 6 with fail
   rw[←hw2]
   clear hw2 p0 p1 p2 hql
   go_region_held3 (fun W=>W.cell? ⟨b,off+6,none⟩=some (.slice (some ⟨xb,xoff,none⟩) n ac)∧W.cell? ⟨wr.heap.size,1,none⟩=some (.int .i64 pt)) (go_keep)
    (first
      |(go_at_call 157;refine(HMC.out _ (by exact⟨rfl,rfl,rfl,Nat.le_refl _,fun _ _=>rfl⟩)).mono ?_;rintro x w3 ⟨rfl,H3⟩;obtain⟨_,_,f6,fl⟩:=HCE.out w3 H3.out.1.bel;have f1:w3.cell? ⟨wr.heap.size,1,none⟩=some (.int .i64 pt):=cl ((H3.out.2.2.block _ HNX.out tl).trans HT2.out) 1 rfl))
   have H4:Hid (Lk w0 w3 L kb pb X P vs vs f u (N+(k'+1)*Sk.kst m)∧Kx X w w3):=⟨H3.out.1,H3.out.2.1⟩
   go_wp2
   go_roundw
   case rel=>exact⟨k'+1,by omega,by go_num,H4⟩
   case measure=>simp[intOf];omega
  ·obtain rfl:k'=n:=by omega
   go_wp2
   go_ret
   exact⟨_,_,rfl,H1.out.1,HI.out.1.more (by omega),HI.out.2⟩
theorem eq_sign (s:ByteArray)(l:List UInt8):(s.toList==l)=decide (s.data.toList=l):=by
 rw[Lex.list_of]
 by_cases h:s.data.toList=l
 ·simp[h]
 ·simp[h]
theorem opK {w0:World}{L kb pb:Nat}{P:Prg}{m:Nat}(hT:TyC w0 L kb pb P m){w:World}{X:Nat→Prop}{vs:Sk.Vs}{f:Nat}{u:Bool}{N b off:Nat}{k p c ty:Int}{s:ByteArray}{l:List Po}{a:List Tr}(h:Lk w0 w L kb pb X P vs vs f u N)(hx:AtX w0 L b off (.mk k p c ty s l a))(ho:Sk.isOut s.data.toList=false)(ha8:a.length≤8)(hty:Sk.allT (Sk.typ P vs m) a (a.map fun _=>1)=true)(hN:N+8*Sk.kst m<1000000000):
 Calls Tryz.prog 196 #[.pointer (some ⟨kb,0,none⟩),.pointer (some ⟨b,off,none⟩)] w fun r w'=>r=.returned (.int .i64 (if Sk.isCmp s.data.toList=true then 2 else 1))∧Lk w0 w' L kb pb X P vs vs f u (N+8*Sk.kst m)∧Kx X w w':=by
 obtain⟨hsz,ao,xb,xoff,ac,hcell,hao,hcap,hxs⟩:=tr_parts hx
 obtain⟨_,_,_,_, -,c1, -,c4, -, -,cbl⟩:=tr_cells hx h.bel
 have c6:=hcell w h.bel
 obtain⟨hl1,hl2⟩:=allT_at hty
 have hcall:=allMustK (ac:=ac) hT h hao hxs ha8 (t:=1) (fun i hi=>by have:=hl2 i hi (by simpa using hi);simpa using this) hN
 obtain⟨n,hn⟩:∃n,n=a.length:=⟨_,rfl⟩
 rw[←hn] at c6 hcall
 unfold Sk.isOut at ho
 have ho':=of_decide_eq_false ho
 have n0:(s.toList==[61,61])=false:=by rw[eq_sign];exact decide_eq_false fun e=>ho' (.inl e)
 have n1:(s.toList==[33,61])=false:=by rw[eq_sign];exact decide_eq_false fun e=>ho' (.inr (.inl e))
 have n2:(s.toList==[33])=false:=by rw[eq_sign];exact decide_eq_false fun e=>ho' (.inr (.inr (.inl e)))
 have n3:(s.toList==[38,38])=false:=by rw[eq_sign];exact decide_eq_false fun e=>ho' (.inr (.inr (.inr (.inl e))))
 have n4:(s.toList==[124,124])=false:=by rw[eq_sign];exact decide_eq_false fun e=>ho' (.inr (.inr (.inr (.inr e))))
 have e0:=eq_sign s [60]
 have e1:=eq_sign s [60,61]
 have e2:=eq_sign s [62]
 have e3:=eq_sign s [62,61]
 cases hc:Sk.isCmp s.data.toList with
 | true=>
  unfold Sk.isCmp at hc
  have hc':=of_decide_eq_true hc
  rw[if_pos rfl]
  clear h hx hao hxs hT hty hl1 hl2 hcell hn ho ho' hc ha8
  rcases hc' with h | h | h | h
  all_goals
   rw[h] at e0 e1 e2 e3
   simp(decide:=true) only[decide_true,decide_false] at e0 e1 e2 e3
   clear h
   go_enter Tryz.func196,Tryz.ntmps196
   go_wp2_with fail
   refine hcall.mono ?_
   rintro x w1 ⟨rfl,h1⟩
   have H1:=hidq h1
   clear h1 hcall
   go_wp2
   go_ret
   exact⟨rfl,H1.out⟩
 | false=>
  unfold Sk.isCmp at hc
  have hc':=of_decide_eq_false hc
  rw[if_neg (by simp)]
  rw[decide_eq_false fun e=>hc' (.inl e)] at e0
  rw[decide_eq_false fun e=>hc' (.inr (.inl e))] at e1
  rw[decide_eq_false fun e=>hc' (.inr (.inr (.inl e)))] at e2
  rw[decide_eq_false fun e=>hc' (.inr (.inr (.inr e)))] at e3
  clear h hx hao hxs hT hty hl1 hl2 hcell hn ho ho' hc hc' ha8
  go_enter Tryz.func196,Tryz.ntmps196
  go_wp2_with fail
  refine hcall.mono ?_
  rintro x w1 ⟨rfl,h1⟩
  have H1:=hidq h1
  clear h1 hcall
  go_wp2
  go_ret
  exact⟨rfl,H1.out⟩
def NtC (w0:World)(L kb pb:Nat)(P:Prg)(m:Nat):Prop:=
 ∀(w:World) (X:Nat→Prop) (vs:Sk.Vs) (f:Nat) (u:Bool) (N b off:Nat) (x:Tr) (t:Int),Lk w0 w L kb pb X P vs vs f u N→AtX w0 L b off x→Sk.typF P vs (Sk.typ P vs m) x=some t→N+Sk.kst (m+1)<1000000000→
  Calls Tryz.prog 183 #[.pointer (some ⟨kb,0,none⟩),.pointer (some ⟨b,off,none⟩)] w fun r w'=>r=.returned (.int .i64 t)∧Lk w0 w' L kb pb X P vs vs f u (N+Sk.kst (m+1))∧Kx X w w'
theorem newTypeK {w0:World}{L kb pb:Nat}{P:Prg}{m:Nat}{cv av nv qv:Value}(hB:Lb w0 L pb P cv av nv qv)(hT:TyC w0 L kb pb P m):NtC w0 L kb pb P m:=by
 intro w X vs f u N b off x t h hx ht hN
 obtain⟨k,p,c,ty,s,l,a⟩:=x
 have hN':N+(1+8*Sk.kst m)<1000000000:=hN
 obtain⟨lo,lc,ao,ac,c0,c1,c3,c4,c5,c6,cbl⟩:=tr_cells hx h.bel
 have hsz:=(tr_parts hx).1
 have hgo:Sk.kst (m+1)=1+8*Sk.kst m:=rfl
 rw[hgo]
 unfold Sk.typF at ht
 dsimp only at ht
 by_cases k1:k=1
 ·subst k1
  rw[if_pos rfl] at ht
  obtain rfl:=Option.some.inj ht
  have HF:Hid (Lk w0 w L kb pb X P vs vs f u (N+(1+8*Sk.kst m))∧Kx X w w):=⟨h.more (by omega),Kx.refl _ _⟩
  clear h hx hT hB ht hgo
  go_enter Tryz.func183,Tryz.ntmps183
  go_wp2
  go_ret
  exact⟨rfl,HF.out⟩
 rw[if_neg k1] at ht
 by_cases k2:k=2
 ·subst k2
  rw[if_pos rfl] at ht
  have HV:Hid (∀W,Below w.heap.size w W→Calls Tryz.prog 158 #[.pointer (some ⟨kb,0,none⟩),.string s,.int .i64 p] W fun r w'=>r=.returned (.int .i64 t)∧Hid (Lk w0 w' L kb pb X P vs vs f u (N+(1+8*Sk.kst m))∧Kx X w w')):=fun W hW=>by
   have h1:=h.later hW
   refine(variableK h1.1 hsz (by omega) ht p).mono ?_
   rintro r w' ⟨rfl,h2,h3⟩
   exact⟨rfl,h2.more (by omega),h1.2.trans h3⟩
  have HC:Hid (∀W,Below L w0 W→W.cell? ⟨b,off+1,none⟩=some (.int .i64 p)∧W.cell? ⟨b,off+4,none⟩=some (.string s)):=fun W hW=>by
   obtain⟨_,_,_,_,_,h1,_,h4,_⟩:=tr_cells hx hW
   exact⟨h1,h4⟩
  clear h hx hT hB ht hgo
  go_enter Tryz.func183,Tryz.ntmps183
  go_upto_region 3 with fail
  go_region_held3 (fun W=>W.cell? ⟨b,off+1,none⟩=some (.int .i64 p)∧W.cell? ⟨b,off+4,none⟩=some (.string s)) (go_keep)
   (first
     |(go_at_call 158;refine(HV.out _ (by exact⟨rfl,rfl,rfl,Nat.le_refl _,fun _ _=>rfl⟩)).mono ?_;rintro x w1 ⟨rfl,H1⟩;obtain⟨d1,d4⟩:=HC.out w1 H1.out.1.bel))
  go_wp2
  go_ret
  exact⟨rfl,H1.out⟩
 rw[if_neg k2] at ht
 by_cases k3:k=3
 ·subst k3
  rw[if_pos rfl] at ht
  split at ht
  case isFalse=>cases ht
  rename_i hcond
  obtain rfl:=Option.some.inj ht
  have hcall:=opK hT h hx hcond.1 hcond.2.1 hcond.2.2 (by omega)
  clear h hx hT hB ht hgo hcond
  obtain⟨tt,htt⟩:∃x:Int,x=if Sk.isCmp s.data.toList=true then 2 else 1:=⟨_,rfl⟩
  rw[←htt] at hcall⊢
  clear htt
  go_enter Tryz.func183,Tryz.ntmps183
  go_wp2_with fail
  refine hcall.mono ?_
  rintro x w1 ⟨rfl,h1,h2⟩
  have H1:=hidq (And.intro (h1.more (show _≤N+(1+8*Sk.kst m) by omega)) h2)
  clear h1 h2 hcall
  go_wp2
  go_ret
  exact⟨rfl,H1.out⟩
 rw[if_neg k3] at ht
 by_cases k4:k=4
 ·subst k4
  rw[if_pos rfl] at ht
  obtain⟨q,hq,ht⟩:=Option.bind_eq_some_iff.1 ht
  split at ht
  case isFalse=>cases ht
  rename_i hcond
  obtain rfl:=Option.some.inj ht
  have hcall:=callK hB hT h hx hq hcond.1 hcond.2.1 hcond.2.2.1 (by omega)
  have hne0:=hcond.2.2.2
  obtain⟨rt,hrt⟩:∃x:Int,x=q.result.type:=⟨_,rfl⟩
  have HRT:Hid (∀(W:World) (b' off':Nat) (cs:List Value),At w0 (fun b=>b<L) b' off' cs→PcIs w0 (fun b=>b<L) q cs→Below L w0 W→W.cell? ⟨b',off'+4,none⟩=some (.int .i64 rt)∧b'<W.heap.size):=fun W b' off' cs g1 g2 g3=>by
   obtain⟨pv,rl,bv,fv,yv,rfl,_⟩:=g2
   have:=g1.keeps (kbase g3)
   exact⟨by rw[hrt];exact this.cell 4 _ rfl,this.lt⟩
  have HC:Hid (∀W,Below L w0 W→W.cell? ⟨b,off+1,none⟩=some (.int .i64 p)∧b<W.heap.size):=fun W hW=>by
   obtain⟨_,_,_,_,_,h1,_,_,_,_,hl⟩:=tr_cells hx hW
   exact⟨h1,hl⟩
  rw[←hrt] at hne0⊢
  have hz0:(rt==0)=false:=by simpa using hne0
  have hti:=fun p w=>tellIfC 7 p w
  clear h hx hT hB ht hgo hcond hrt hq
  go_enter Tryz.func183,Tryz.ntmps183
  go_wp2_with fail
  refine hcall.mono ?_
  rintro x w1 ⟨b',off',rfl,H1⟩
  obtain⟨g4,gl⟩:w1.cell? ⟨b',off'+4,none⟩=some (.int .i64 rt)∧b'<w1.heap.size:=by
   obtain⟨⟨cs,k1,k2⟩,k3,_⟩:=H1.out
   exact HRT.out w1 b' off' cs k1 k2 k3.bel
  obtain⟨d1,dl⟩:=HC.out w1 H1.out.2.1.bel
  have HF:Hid (Lk w0 w1 L kb pb X P vs vs f u (N+(1+8*Sk.kst m))∧Kx X w w1):=⟨H1.out.2.1.more (by omega),H1.out.2.2⟩
  clear hcall c0 c1 c3 c4 c5 c6 cbl
  go_wp2_with fail
  refine(hti _ _).mono ?_
  rintro x w2 ⟨rfl,hw2⟩
  have hw2':=hw2.symm
  subst hw2'
  clear hw2
  go_wp2
  go_ret
  exact⟨rfl,HF.out⟩
 ·rw[if_neg k4] at ht
  cases ht
theorem AtX.one {w0:World}{L b off:Nat}{x y:Tr}{cs:List Value}(h:AtX w0 L b off x)(h1:At w0 (fun b=>b<L) b off cs)(h2:TrIs w0 (fun b=>b<L) y cs):y=x:=by
 obtain⟨cs',g1,g2,_⟩:=h
 have e:cs=cs':=by
  have l1:=h2.len
  have l2:=g2.len
  refine List.ext_getElem (by omega) fun i hi hi'=> ?_
  have e1:=h1.cell i cs[i] (List.getElem?_eq_getElem hi)
  have e2:=g1.cell i cs'[i] (List.getElem?_eq_getElem hi')
  rw[e1] at e2
  exact Option.some.inj e2
 subst e
 exact h2.det g2
theorem typeOfK {w0:World}{L kb pb:Nat}{P:Prg}{m:Nat}(hT:NtC w0 L kb pb P m):TyC w0 L kb pb P (m+1):=by
 intro w X vs f u N b off x t h hx ht hN
 obtain⟨vo,vc,mk,ma,mr,K,hE⟩:=h
 have hlow:=hE.bel
 have hpl:Pln w (b,off).1:=by
  obtain⟨cs,g1,_,g3⟩:=hx
  exact g3.keeps (hE.bel.block b g1.ok)
 obtain⟨z0,z1,z2,z3,z4,z5,zl,_⟩:=hE.cells
 have hask:=hE.kn.asks (b,off) hpl
 unfold keV at hask
 rcases hask with⟨hno,hask⟩|⟨t',hin,hask⟩
 ·have hcall:=hT w X vs f u N b off x t ⟨vo,vc,mk,ma,mr,K,hE⟩ hx ht hN
  have HX:=hidq hx
  have HT:=hidq ht
  clear hE hT hx ht hlow hno hpl
  go_enter Tryz.func172,Tryz.ntmps172
  go_wp2_with fail
  refine hcall.mono ?_
  rintro r w1 ⟨rfl,⟨vo1,vc1,mk1,ma1,mr1,K1,hE1⟩,hk1⟩
  have hpl1:Pln w1 (b,off).1:=by
   obtain⟨cs,g1,_,g3⟩:=HX.out
   exact g3.keeps (hE1.bel.block b g1.ok)
  obtain⟨w2,K2,hup,hm2,hmem,hg2⟩:=hE1.kn.put (b,off) hpl1 t
  unfold keV at hup
  have hp:=hE1.putK hm2 (fun q hq=>by
   rcases hmem q hq with h | rfl
   ·exact hE1.ok q h
   ·obtain⟨cs,g1,_,_⟩:=HX.out
    refine⟨g1.ok,fun y cs' k1 k2 m' r hr=> ?_⟩
    have e:=AtX.one HX.out k1 k2
    subst e
    exact Sk.typ_one hr HT.out) hg2
  have HF:Hid (Lk w0 w2 L kb pb X P vs vs f u (N+Sk.kst (m+1))∧Kx X w w2):=⟨⟨_,_,_,_,_,_,hp.1⟩,hk1.trans hp.2⟩
  obtain⟨_,_,y2,_,_,_,yl,_⟩:=hE1.cells
  clear hE1 hk1 hp hm2 hg2 hmem hpl1 hcall z0 z1 z2 z3 z4 z5 zl hask
  go_wp2
  go_ret
  exact⟨rfl,HF.out⟩
 ·have e:t=t':=by
   obtain⟨cs,g1,g2,_⟩:=hx
   exact(hE.ok _ hin).2 x cs g1 g2 (m+1) t ht
  subst e
  have HF:Hid (Lk w0 w L kb pb X P vs vs f u (N+Sk.kst (m+1))∧Kx X w w):=⟨Lk.more ⟨_,_,_,_,_,_,hE⟩ (by omega),Kx.refl _ _⟩
  clear hE hT hx ht hlow hpl
  go_enter Tryz.func172,Tryz.ntmps172
  go_wp2
  go_ret
  exact⟨rfl,HF.out⟩
theorem typ_all {w0:World}{L kb pb:Nat}{P:Prg}{cv av nv qv:Value}(hB:Lb w0 L pb P cv av nv qv):∀m,TyC w0 L kb pb P m:=by
 intro m
 induction m with
 | zero=>intro w X vs f u N b off x t _ _ ht;cases ht
 | succ m ih=>exact typeOfK (newTypeK hB ih)
namespace Lex
def nameF (l:List UInt8):Bool:= !l.isEmpty && decide (l.length≤12) && alphaB (c0 l) && decide (runLen nameB l=l.length) && !wordB l
theorem nameF_end {l:List UInt8}(h0:l≠[])(h:l.length≤12)(ha:alphaB (c0 l)=true)(hr:runLen nameB l=l.length):nameF l= !wordB l:=by
 have e:l.isEmpty=false:=by simpa using h0
 simp[nameF,e,h,ha,hr]
theorem nameF_long {l:List UInt8}(h:¬l.length≤12):nameF l=false:=by simp[nameF,h]
theorem nameF_first {l:List UInt8}(h:alphaB (c0 l)=false):nameF l=false:=by simp[nameF,h]
theorem nameF_run {l:List UInt8}(h:¬runLen nameB l=l.length):nameF l=false:=by simp[nameF,h]
end Lex
theorem blank_any (c:Int)(w:World):Calls Tryz.prog 135 #[.int .u8 c] w fun e w'=>e=.returned (.bool (Lex.blankB c))∧w'=w:=by
 by_cases h1:c=32
 ·subst h1
  go_enter Tryz.func135,Tryz.ntmps135
  go_wp2
  go_ret
  exact⟨rfl,rfl⟩
 ·by_cases h2:c=9
  ·subst h2
   go_enter Tryz.func135,Tryz.ntmps135
   go_wp2
   go_ret
   exact⟨rfl,rfl⟩
  ·have e1:(c==32)=false:=by simp[h1]
   have e2:(c==9)=false:=by simp[h2]
   have e3:Lex.blankB c=(c==10):=by simp[Lex.blankB,e1,e2]
   rw[e3]
   go_enter Tryz.func135,Tryz.ntmps135
   go_wp2
   go_ret
   exact⟨rfl,rfl⟩
theorem line_any (c:Int)(w:World):Calls Tryz.prog 136 #[.int .u8 c] w fun e w'=>e=.returned (.bool (Lex.lineB c))∧w'=w:=by
 go_enter Tryz.func136,Tryz.ntmps136
 go_wp2
 go_ret
 exact⟨rfl,rfl⟩
theorem digit_any (c:Int)(w:World):Calls Tryz.prog 109 #[.int .u8 c] w fun e w'=>e=.returned (.bool (Lex.digitB c))∧w'=w:=by
 by_cases h1:48≤c
 ·have e3:Lex.digitB c=decide (c≤57):=by simp[Lex.digitB,h1]
  rw[e3]
  go_enter Tryz.func109,Tryz.ntmps109
  go_wp2
  go_ret
  exact⟨rfl,rfl⟩
 ·have e3:Lex.digitB c=false:=by simp[Lex.digitB,h1]
  have e1:decide (48≤c)=false:=by simp[h1]
  rw[e3]
  go_enter Tryz.func109,Tryz.ntmps109
  go_wp2
  go_ret
  exact⟨rfl,rfl⟩
theorem alpha_any (c:Int)(w:World):Calls Tryz.prog 72 #[.int .u8 c] w fun e w'=>e=.returned (.bool (Lex.alphaB c))∧w'=w:=by
 by_cases h1:97≤c
 ·by_cases h2:c≤122
  ·have e3:Lex.alphaB c=true:=by simp[Lex.alphaB];omega
   rw[e3]
   go_enter Tryz.func72,Tryz.ntmps72
   go_wp2
   go_ret
   exact⟨rfl,rfl⟩
  ·have e3:Lex.alphaB c=false:=by simp[Lex.alphaB];omega
   have e4:(c==95)=false:=by simp;omega
   have e5:¬c≤90:=by omega
   have e6:65≤c:=by omega
   rw[e3]
   go_enter Tryz.func72,Tryz.ntmps72
   go_wp2
   go_ret
   exact⟨rfl,rfl⟩
 ·by_cases h3:65≤c
  ·by_cases h4:c≤90
   ·have e3:Lex.alphaB c=true:=by simp[Lex.alphaB];omega
    rw[e3]
    go_enter Tryz.func72,Tryz.ntmps72
    go_wp2
    go_ret
    exact⟨rfl,rfl⟩
   ·have e3:Lex.alphaB c=(c==95):=by rw[Bool.eq_iff_iff];simp[Lex.alphaB];omega
    rw[e3]
    go_enter Tryz.func72,Tryz.ntmps72
    go_wp2
    go_ret
    exact⟨rfl,rfl⟩
  ·have e3:Lex.alphaB c=false:=by simp[Lex.alphaB];omega
   have e4:(c==95)=false:=by simp;omega
   rw[e3]
   go_enter Tryz.func72,Tryz.ntmps72
   go_wp2
   go_ret
   exact⟨rfl,rfl⟩
theorem name_any (c:Int)(w:World):Calls Tryz.prog 74 #[.int .u8 c] w fun e w'=>e=.returned (.bool (Lex.nameB c))∧w'=w:=by
 cases h:Lex.alphaB c
 ·have e3:Lex.nameB c=Lex.digitB c:=by simp[Lex.nameB,h]
  rw[e3]
  go_enter Tryz.func74,Tryz.ntmps74
  go_wp2_with (first |(go_at_call 72;refine(alpha_any _ _).mono ?_;rintro e w' ⟨rfl,rfl⟩)|(go_at_call 109;refine(digit_any _ _).mono ?_;rintro e w' ⟨rfl,rfl⟩))
  go_ret
  exact⟨rfl,rfl⟩
 ·have e3:Lex.nameB c=true:=by simp[Lex.nameB,h]
  rw[e3]
  go_enter Tryz.func74,Tryz.ntmps74
  go_wp2_with (first |(go_at_call 72;refine(alpha_any _ _).mono ?_;rintro e w' ⟨rfl,rfl⟩)|(go_at_call 109;refine(digit_any _ _).mono ?_;rintro e w' ⟨rfl,rfl⟩))
  go_ret
  exact⟨rfl,rfl⟩
theorem ret_extract {s:ByteArray}{a b:Nat}(h:a=b):Ending.returned (.string (s.extract 0 a))=.returned (.string (s.extract 0 b)):=by rw[h]
theorem run_line (s:ByteArray)(w:World)(hs:s.size≤100000):
 Calls Tryz.prog 73 #[.string s,.func (.func 136) #[] #[]] w fun e w'=>e=.returned (.string (s.extract 0 (Lex.runLen Lex.lineB s.data.toList)))∧w'=w:=by
 go_enter Tryz.func73,Tryz.ntmps73
 go_wp2
 go_loop [5] (fun i=>∃k:Nat,k≤s.size∧i=.int .i64 k∧Hid (Lex.runLen Lex.lineB s.data.toList=k+Lex.runLen Lex.lineB (s.data.toList.drop k))) (fun i=>s.size - (intOf i).toNat)
 case atStart=>exact⟨0,Nat.zero_le _,rfl,Lex.run_start _ _⟩
 case round=>
  obtain⟨k,hk,rfl,H⟩:=hrel
  by_cases hlt:k<s.size
  ·cases hp:Lex.lineB (s[k].toNat:Int)
   ·have HF:=Lex.run_no _ s k hlt hp H
    clear H
    go_wp2_with (go_at_call 136;refine(line_any _ _).mono ?_;rintro e w' ⟨rfl,rfl⟩)
    go_ret
    exact⟨ret_extract HF.out.symm,rfl⟩
   ·have HT:=Lex.run_yes _ s k hlt hp H
    clear H
    go_wp2_with (go_at_call 136;refine(line_any _ _).mono ?_;rintro e w' ⟨rfl,rfl⟩)
    go_round
    case rel=>exact⟨k+1,by omega,by go_num,HT⟩
    case measure=>simp[intOf];omega
  ·have HF:=Lex.run_stop _ s k (by omega) H
   clear H
   go_wp2
   go_ret
   exact⟨ret_extract HF.out.symm,rfl⟩
theorem run_name (s:ByteArray)(w:World)(hs:s.size≤100000):
 Calls Tryz.prog 73 #[.string s,.func (.func 74) #[] #[]] w fun e w'=>e=.returned (.string (s.extract 0 (Lex.runLen Lex.nameB s.data.toList)))∧w'=w:=by
 go_enter Tryz.func73,Tryz.ntmps73
 go_wp2
 go_loop [5] (fun i=>∃k:Nat,k≤s.size∧i=.int .i64 k∧Hid (Lex.runLen Lex.nameB s.data.toList=k+Lex.runLen Lex.nameB (s.data.toList.drop k))) (fun i=>s.size - (intOf i).toNat)
 case atStart=>exact⟨0,Nat.zero_le _,rfl,Lex.run_start _ _⟩
 case round=>
  obtain⟨k,hk,rfl,H⟩:=hrel
  by_cases hlt:k<s.size
  ·cases hp:Lex.nameB (s[k].toNat:Int)
   ·have HF:=Lex.run_no _ s k hlt hp H
    clear H
    go_wp2_with (go_at_call 74;refine(name_any _ _).mono ?_;rintro e w' ⟨rfl,rfl⟩)
    go_ret
    exact⟨ret_extract HF.out.symm,rfl⟩
   ·have HT:=Lex.run_yes _ s k hlt hp H
    clear H
    go_wp2_with (go_at_call 74;refine(name_any _ _).mono ?_;rintro e w' ⟨rfl,rfl⟩)
    go_round
    case rel=>exact⟨k+1,by omega,by go_num,HT⟩
    case measure=>simp[intOf];omega
  ·have HF:=Lex.run_stop _ s k (by omega) H
   clear H
   go_wp2
   go_ret
   exact⟨ret_extract HF.out.symm,rfl⟩
theorem run_digit (s:ByteArray)(w:World)(hs:s.size≤100000):
 Calls Tryz.prog 73 #[.string s,.func (.func 109) #[] #[]] w fun e w'=>e=.returned (.string (s.extract 0 (Lex.runLen Lex.digitB s.data.toList)))∧w'=w:=by
 go_enter Tryz.func73,Tryz.ntmps73
 go_wp2
 go_loop [5] (fun i=>∃k:Nat,k≤s.size∧i=.int .i64 k∧Hid (Lex.runLen Lex.digitB s.data.toList=k+Lex.runLen Lex.digitB (s.data.toList.drop k))) (fun i=>s.size - (intOf i).toNat)
 case atStart=>exact⟨0,Nat.zero_le _,rfl,Lex.run_start _ _⟩
 case round=>
  obtain⟨k,hk,rfl,H⟩:=hrel
  by_cases hlt:k<s.size
  ·cases hp:Lex.digitB (s[k].toNat:Int)
   ·have HF:=Lex.run_no _ s k hlt hp H
    clear H
    go_wp2_with (go_at_call 109;refine(digit_any _ _).mono ?_;rintro e w' ⟨rfl,rfl⟩)
    go_ret
    exact⟨ret_extract HF.out.symm,rfl⟩
   ·have HT:=Lex.run_yes _ s k hlt hp H
    clear H
    go_wp2_with (go_at_call 109;refine(digit_any _ _).mono ?_;rintro e w' ⟨rfl,rfl⟩)
    go_round
    case rel=>exact⟨k+1,by omega,by go_num,HT⟩
    case measure=>simp[intOf];omega
  ·have HF:=Lex.run_stop _ s k (by omega) H
   clear H
   go_wp2
   go_ret
   exact⟨ret_extract HF.out.symm,rfl⟩
theorem word_any (s:ByteArray)(w:World):
 Calls Tryz.prog 75 #[.string s] w fun e w'=>e=.returned (.bool (Lex.wordB s.toList))∧w'=w:=by
 go_enter Tryz.func75,Tryz.ntmps75
 go_wp2
 all_goals first
  |(exfalso;simp_all;done)
  |(go_ret;exact⟨congrArg (fun b=>Ending.returned (.bool b)) (Lex.word_yes (by assumption) rfl).symm,rfl⟩)
  |(go_ret;exact⟨congrArg (fun b=>Ending.returned (.bool b)) (show false=Lex.wordB s.toList by simp only[Lex.wordB,Bool.or_self, *]),rfl⟩)
theorem name_end (s:ByteArray)(h0:s.data.toList≠[])(h12:¬12<s.size)(ha:Lex.alphaB (Lex.c0 s.data.toList)=true)(hr:Lex.runLen Lex.nameB s.data.toList=s.data.toList.length):Lex.nameF s.data.toList= !Lex.wordB s.data.toList:=by
 exact Lex.nameF_end h0 (by rw[Lex.len_of];omega) ha hr
theorem scanName_any (s:ByteArray)(w:World)(hs:s.size≤9223372036854775807):
 Calls Tryz.prog 48 #[.string s] w fun e w'=>e=.returned (.bool (Lex.nameF s.data.toList))∧w'=w:=by
 by_cases h0:s.data.toList=[]
 ·have he:s.toList.isEmpty=true:=by rw[Lex.list_of,h0];rfl
  have hw:Lex.nameF s.data.toList=false:=by rw[h0];rfl
  rw[hw]
  clear h0 hw
  go_enter Tryz.func48,Tryz.ntmps48
  go_wp2
  go_ret
  exact⟨rfl,rfl⟩
 ·have he:s.toList.isEmpty=false:=by rw[Lex.list_of];simpa using h0
  have hp:0<s.size:=by rw[←Lex.len_of];exact List.length_pos_iff.2 h0
  by_cases h12:12<s.size
  ·have hw:Lex.nameF s.data.toList=false:=Lex.nameF_long (by rw[Lex.len_of];omega)
   rw[hw]
   have d:decide ((12:Int)<(s.size:Int))=true:=by simp;omega
   clear h0 hw
   go_enter Tryz.func48,Tryz.ntmps48
   go_wp2
   go_ret
   exact⟨rfl,rfl⟩
  ·have d:decide ((12:Int)<(s.size:Int))=false:=by simp;omega
   have hc0:=Lex.c0_of s hp
   cases ha:Lex.alphaB ((s[0].toNat:Nat):Int)
   ·have hw:Lex.nameF s.data.toList=false:=Lex.nameF_first (by rw[hc0];exact ha)
    rw[hw]
    clear h0 hw hc0
    go_enter Tryz.func48,Tryz.ntmps48
    go_wp2_with (go_at_call 72;refine(alpha_any _ _).mono ?_;rintro e w' ⟨rfl,rfl⟩)
    go_ret
    exact⟨rfl,rfl⟩
   ·by_cases hr:Lex.runLen Lex.nameB s.data.toList=s.data.toList.length
    ·have hw:=name_end s h0 h12 (by rw[hc0];exact ha) hr
     have HR:Hid (s.extract 0 (Lex.runLen Lex.nameB s.data.toList)=s):=by
      show _=_;rw[Lex.head_eq,hr,List.take_length]
     rw[hw]
     obtain⟨b,hb⟩:∃b,Lex.wordB s.data.toList=b:=⟨_,rfl⟩
     rw[hb]
     have HW:Hid (Lex.wordB s.toList=b):=by show _=_;rw[Lex.list_of];exact hb
     clear h0 hw hc0 hr hb
     go_enter Tryz.func48,Tryz.ntmps48
     go_wp2_with (first |(go_at_call 72;refine(alpha_any _ _).mono ?_;rintro e w' ⟨rfl,rfl⟩)|(go_at_call 73;refine(run_name _ _ (by omega)).mono ?_;rintro e w' ⟨rfl,rfl⟩;rw[HR.out])|(go_at_call 75;refine(word_any _ _).mono ?_;rintro e w' ⟨rfl,rfl⟩;rw[HW.out]))
     go_ret
     exact⟨rfl,rfl⟩
    ·have hw:Lex.nameF s.data.toList=false:=Lex.nameF_run hr
     have hne:(s.extract 0 (Lex.runLen Lex.nameB s.data.toList)).toList≠s.toList:=by
      rw[Lex.list_of,Lex.list_of,Lib.extract_data]
      intro e;have:=congrArg List.length e;simp at this
      have h1:=Lex.runLen_le Lex.nameB s.data.toList
      simp at h1 hr;omega
     have HN:((s.extract 0 (Lex.runLen Lex.nameB s.data.toList)).toList==s.toList)=false:=by simpa using hne
     rw[hw]
     clear h0 hw hc0 hr hne
     go_enter Tryz.func48,Tryz.ntmps48
     go_wp2_with (first |(go_at_call 72;refine(alpha_any _ _).mono ?_;rintro e w' ⟨rfl,rfl⟩)|(go_at_call 73;refine(run_name _ _ (by omega)).mono ?_;rintro e w' ⟨rfl,rfl⟩))
     go_ret
     exact⟨rfl,rfl⟩
end Go.Proofs.YtepkhlpjgnckkaaGreatDoor
