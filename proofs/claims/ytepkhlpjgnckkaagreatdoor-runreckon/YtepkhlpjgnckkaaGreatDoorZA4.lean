/- A frame of run, and its variables; find. And more of the same. -/
import Derived.Test.YtepkhlpjgnckkaaGreatDoorZA3
import Derived.Shelf.Abstract
import Derived.Deep.RegionHeld3
namespace Go.Proofs.YtepkhlpjgnckkaaGreatDoor
set_option maxRecDepth 100000
set_option maxHeartbeats 8000000
open Go.RowKit
open Par (Tr Stm Prm Chn Prc Prg Po ba)
def VrIs (_:World)(_:Nat→Prop)(a:ByteArray×Nat)(cs:List Value):Prop:=cs=varC a.1 a.2
theorem isElVr:IsEl VrIs 3:=⟨fun h _=>h,fun h _=>h,fun h=>by cases h;rfl,fun h u hu=>by
 cases h
 simp only[List.mem_cons,List.not_mem_nil,or_false] at hu
 rcases hu with rfl | rfl | rfl<;>rfl⟩
theorem RowAt.rws {w:World}{S:Nat→Prop}{sz:Nat}{ao:Option Addr}{b off n c:Nat}{css:List (List Value)}(h:RowAt w S sz ao b off n c css):Rws sz w ao b off (css.map List.toArray):=by
 refine⟨fun hp=>h.adr (by simpa using hp),fun k hk=> ?_,fun k hk j hj=> ?_,fun hp=>h.lt (by simpa using hp)⟩
 ·simp at hk;simp;exact h.szs k hk
 ·simp at hk
  simp at hj⊢
  exact h.cell k hk j _ (by simp[hj])
theorem own_kept2 {w w':World}{B e sz n:Nat}{v:Value}{xs:List Value}(h:w.ownsRow B e sz v n xs)(hk:∀k,v.ownBlock=some k→w'.heap[k]? =w.heap[k]?):w'.ownsRow B e sz v n xs:=by
 refine⟨h.1,?_⟩
 rcases h.2 with hn |⟨g,cap,cur,rfl,hb,hgg,rest⟩
 ·exact .inl hn
 ·exact .inr ⟨g,cap,cur,rfl,hb,by rw[hk g rfl];exact hgg,rest⟩
structure Rf (w:World)(fb rb deep:Nat)(X:Nat→Prop)(vo:Option Addr)(vc:Nat)(nbs:List Nat)(env:Rr.Env)(back:Int):Prop where
 blk:w.heap[fb]? =some (.cells #[.pointer (some ⟨rb,0,none⟩),.int .i64 (deep:Nat),.slice vo env.length vc,.int .i64 back] 82 (0,0))
 own:OwnL VrIs w (fb+1) 92 3 (.slice vo env.length vc) ((env.map (·.1)).zip nbs)
 len:nbs.length=env.length
 box:∀i (h:i<env.length) (h':i<nbs.length),w.heap[nbs[i]]? =some (.cells #[.int .i64 env[i].2] 3 (0,0))
 nd:nbs.Nodup
 nb:∀n∈nbs,X n∧n≠fb∧some n≠(.slice vo env.length vc:Value).ownBlock
 xf:X fb
 xo:∀k,(.slice vo env.length vc:Value).ownBlock=some k→X k
 up:∀b,X b→fb≤b∧b<w.heap.size
 few:env.length≤1000
theorem Rf.keeps {w w':World}{fb rb deep:Nat}{X:Nat→Prop}{vo:Option Addr}{vc:Nat}{nbs:List Nat}{env:Rr.Env}{back:Int}(h:Rf w fb rb deep X vo vc nbs env back)(hz:w.heap.size≤w'.heap.size)(hk:∀b,X b→w'.heap[b]? =w.heap[b]?):Rf w' fb rb deep X vo vc nbs env back:=by
 refine⟨by rw[hk fb h.xf];exact h.blk,?_,h.len,fun i hi hi'=> ?_,h.nd,h.nb,h.xf,h.xo,fun b hb=>⟨(h.up b hb).1,Nat.lt_of_lt_of_le (h.up b hb).2 hz⟩,h.few⟩
 ·obtain⟨css,h1,h2,h3⟩:=h.own.ex
  exact⟨css,own_kept2 h1 fun k e=>hk k (h.xo k e),h2,h3⟩
 ·rw[hk _ (h.nb _ (List.getElem_mem hi')).1]
  exact h.box i hi hi'
theorem findE_first {env:Rr.Env}{s:ByteArray}{n:Int}(h:Rr.findE env s=some n):∃i,∃hi:i<env.length,env[i].1=s∧env[i].2=n∧∀j (hj:j<i),env[j].1≠s:=by
 induction env with
 | nil=>cases h
 | cons x l ih=>
  unfold Rr.findE at h
  split at h
  ·rename_i e
   cases h
   exact⟨0,by simp,e,rfl,fun j hj=>by omega⟩
  ·rename_i e
   obtain⟨i,hi,h1,h2,h3⟩:=ih h
   refine⟨i+1,by simp;omega,h1,h2,fun j hj=> ?_⟩
   cases j with
   | zero=>exact e
   | succ j=>exact h3 j (by omega)
theorem findC {w:World}{fb rb deep:Nat}{X:Nat→Prop}{vo:Option Addr}{vc:Nat}{nbs:List Nat}{env:Rr.Env}{back:Int}(h:Rf w fb rb deep X vo vc nbs env back){s:ByteArray}{i:Nat}(hi:i<env.length)(hs:env[i].1=s)(hj:∀j (hj:j<i),env[j].1≠s):
 Calls Tryz.prog 93 #[.pointer (some ⟨fb,0,none⟩),.string s] w fun x w'=>x=.returned (.agg ⟨varC s (nbs[i]'(by rw[h.len];exact hi))⟩)∧Below w.heap.size w w':=by
 have hmf:=mkF
 have hi':i<nbs.length:=by rw[h.len];exact hi
 obtain⟨nb,hnb⟩:∃nb,nb=nbs[i]:=⟨_,rfl⟩
 rw[←hnb]
 obtain⟨css,⟨ao,b,off,c,hv,hr⟩,hc1,hk⟩:=h.own.rows isElVr
 simp only[Value.slice.injEq] at hv
 obtain⟨rfl,hlen,rfl⟩:=hv
 have hcs:∀k (h1:k<css.length) (h2:k<env.length) (h3:k<nbs.length),css[k]=varC env[k].1 nbs[k]:=fun k h1 h2 h3=>by
  have:=hk k (by rw[←hc1];exact h1) h1
  unfold VrIs at this
  rw[this]
  simp
 obtain⟨t,ht⟩:∃t:Array Value→Bool,t=fun x=>match (x[0]? :Option Value) with | some (.string a)=>decide (a=s)| _=>false:=⟨_,rfl⟩
 have htv:∀a n,t ⟨varC a n⟩=decide (a=s):=fun a n=>by rw[ht];rfl
 have hel:∀x∈css.map List.toArray,∃a n,x=⟨varC a n⟩:=fun x hx=>by
  obtain⟨y,hy,rfl⟩:=List.mem_map.1 hx
  obtain⟨k,hk1,rfl⟩:=List.getElem_of_mem hy
  exact⟨_,_,by rw[hcs k hk1 (by omega) (by rw[h.len];omega)]⟩
 have HF:Hid (firstI t (css.map List.toArray)=(i:Int)):=by
  refine firstI_hit (by simp;omega) (fun x hx=> ?_) ?_
  ·obtain⟨j,hj1,rfl⟩:=List.mem_iff_getElem.1 hx
   simp at hj1
   simp only[List.getElem_take,List.getElem_map]
   rw[hcs j (by omega) (by omega) (by omega)]
   exact(htv _ _).trans (by simpa using hj j (by omega))
  ·simp only[List.getElem_map]
   rw[hcs i (by omega) hi hi']
   exact(htv _ _).trans (by simpa using hs)
 obtain⟨w2,hw2⟩:∃w2,w2=(w.alloc (.cells #[.string s] 9)).alloc (.cells #[.string ⟨#[]⟩,.nilFunc,.nilFunc] 92):=⟨_,rfl⟩
 have hb2:=al2 hw2
 have hidx:=indexFuncV 131 #[.pointer (some ⟨w.heap.size,0,none⟩)] (enters_of Tryz.func131 (by kernel_rfl) rfl) t vo b off env.length vc (css.map List.toArray) w2 (by simp;omega) h.few (hr.rws.later hb2) (fun W x hx hW=>by
  obtain⟨a,n,rfl⟩:=hel x hx
  rw[htv]
  exact tstV (ku hW (ab hw2)))
 rw[HF.out] at hidx
 have HR:=hidq (hr.rws.later hb2)
 have HB2:=hidq hb2
 have HK2:=hidq (ac hw2)
 have z2:w.cell? ⟨fb,2,none⟩=some (.slice vo env.length vc):=cl h.blk 2 rfl
 have HZ:=hidq h.blk
 have hl:=lt_of_block h.blk
 have hic:i<css.length:=by omega
 have HC:Hid (css[i]=varC s nb):=by show _=_;rw[hcs i hic hi hi',hs,hnb]
 have hil:i<(css.map List.toArray).length:=by simp;omega
 have hm:=h.few
 have HIL:=hidq hil
 have HW2:=hidq hw2
 obtain⟨n,hn⟩:∃n,n=env.length:=⟨_,rfl⟩
 rw[←hn] at hidx z2
 have hin:i<n:=by rw[hn];exact hi
 rw[←hn] at hm
 clear hb2 hcs htv hel ht hj hk hc1 h hr hil hn
 clear hs hnb hlen
 go_enter Tryz.func93,Tryz.ntmps93
 go_wp2_with fail
 rw[←hw2]
 clear hw2
 refine hidx.mono ?_
 rintro x w3 ⟨rfl,hb3⟩
 have hb:=bu HB2.out hb3
 have z3:=(hb.cell (p:=⟨fb,2,none⟩) hl).trans z2
 have hR3:=HR.out.later hb3
 have ha:=hR3.adr (Nat.lt_of_le_of_lt (Nat.zero_le _) HIL.out)
 have hbl:=hR3.lt (Nat.lt_of_le_of_lt (Nat.zero_le _) HIL.out)
 have hcell:=hR3.cell i HIL.out
 simp only[List.getElem_map,HC.out] at hcell
 have f0:w3.cell? ⟨b,off+i*3+0,none⟩=some (.string s):=hcell 0 (by simp)
 have f1:=hcell 1 (by simp)
 have f2:=hcell 2 (by simp)
 simp only[List.getElem_toArray,List.getElem_cons_zero,List.getElem_cons_succ,Nat.add_zero] at f0 f1 f2
 have hK:=ku hb3 HK2.out
 have q0:=fz hK 0
 have q1:=fz hK 1
 have q2:=fz hK 2
 have p0:w3.cell? ⟨w.heap.size+1,0,none⟩=some (.string ⟨#[]⟩):=cl hK 0 rfl
 have p1:w3.cell? ⟨w.heap.size+1,1,none⟩=some .nilFunc:=cl hK 1 rfl
 have p2:w3.cell? ⟨w.heap.size+1,2,none⟩=some .nilFunc:=cl hK 2 rfl
 have hlr:=lt_of_block hK
 have hl3:fb<w3.heap.size:=Nat.lt_of_lt_of_le hl hb.size
 have HFIN:Hid (∀w4,w4=((w3.setCell ⟨w.heap.size+1,0,none⟩ (.string s)).setCell ⟨w.heap.size+1,1,none⟩ (.func (.func 54) #[] #[.pointer (some ⟨nb,0,none⟩)])).setCell ⟨w.heap.size+1,2,none⟩ (.func (.func 55) #[] #[.pointer (some ⟨nb,0,none⟩)])→w4.heap[w.heap.size+1]? =some (.cells ⟨varC s nb⟩ 92 (0,0))∧Below w.heap.size w w4):=by
  intro w4 e
  obtain⟨_,_,h3⟩:=puts_all [(0,.string s),(1,.func (.func 54) #[] #[.pointer (some ⟨nb,0,none⟩)]),(2,.func (.func 55) #[] #[.pointer (some ⟨nb,0,none⟩)])] hK e
  refine⟨h3,?_⟩
  rw[e]
  exact((hb.setCell (by simp) _).setCell (by simp) _).setCell (by simp) _
 subst ha
 clear hR3 hcell hK hidx hb3 hb z2 hl
 go_wp2
 obtain⟨w4,hw4⟩:∃w4,w4=((w3.setCell ⟨w.heap.size+1,0,none⟩ (.string s)).setCell ⟨w.heap.size+1,1,none⟩ (.func (.func 54) #[] #[.pointer (some ⟨nb,0,none⟩)])).setCell ⟨w.heap.size+1,2,none⟩ (.func (.func 55) #[] #[.pointer (some ⟨nb,0,none⟩)]):=⟨_,rfl⟩
 rw[←hw4]
 obtain⟨e4,e5⟩:=HFIN.out w4 hw4
 have r0:=cl e4 0 rfl
 have r1:=cl e4 1 rfl
 have r2:=cl e4 2 rfl
 exact bodyPost_ret (v:=.agg ⟨varC s nb⟩) (by simp[results,Tryz.results93,go_sem,r0,r1,r2]) rfl ⟨rfl,e5⟩
structure At (w:World)(S:Nat→Prop)(b off:Nat)(cs:List Value):Prop where
 ok:S b
 lt:b<w.heap.size
 cell:∀j u,cs[j]? =some u→w.cell? ⟨b,off+j,none⟩=some u
theorem At.keeps {w w':World}{S:Nat→Prop}{b off:Nat}{cs:List Value}(h:At w S b off cs)(k:Keeps S w w'):At w' S b off cs:=
 ⟨h.ok,Nat.lt_of_lt_of_le h.lt k.size,fun j u hu=>(k.cell (p:=⟨b,off+j,none⟩) h.ok h.lt).trans (h.cell j u hu)⟩
theorem At.part {w:World}{S:Nat→Prop}{b off:Nat}{a c d:List Value}(h:At w S b off (a++c++d)):At w S b (off+a.length) c:=
 ⟨h.ok,h.lt,fun j u hu=>by
   have hj:j<c.length:=by rcases Nat.lt_or_ge j c.length with h1 | h1;exact h1;rw[List.getElem?_eq_none h1] at hu;cases hu
   rw[Nat.add_assoc]
   refine h.cell (a.length+j) u ?_
   rw[List.append_assoc,List.getElem?_append_right (by omega),Nat.add_sub_cancel_left,List.getElem?_append_left hj]
   exact hu⟩
theorem RowAt.at {w:World}{S:Nat→Prop}{sz:Nat}{ao:Option Addr}{b off n c:Nat}{css:List (List Value)}(h:RowAt w S sz ao b off n c css){i:Nat}(hi:i<css.length):At w S b (off+i*sz) css[i]:=
 ⟨h.ok (by omega),h.lt (by omega),fun j u hu=>h.cell i hi j u hu⟩
structure Pm (w:World)(pb L:Nat)(P:Prg)(cv av nv qv:Value):Prop where
 blk:w.heap[pb]? =some (.cells #[cv,av,nv,qv] 27 (0,0))
 is:PgIs w (fun b=>b<L) P [cv,av,nv,qv]
 few:P.chans.length≤1000∧P.procs.length≤1000
theorem Pm.keeps {w w':World}{pb L:Nat}{P:Prg}{cv av nv qv:Value}(h:Pm w pb L P cv av nv qv)(k:Keeps (fun b=>b<L∨b=pb) w w'):Pm w' pb L P cv av nv qv:=
 ⟨(k.block pb (.inr rfl) (lt_of_block h.blk)).trans h.blk,h.is.keeps ⟨k.size,fun b hb=>k.block b (.inl hb)⟩,h.few⟩
theorem findP_first {l:List Prc}{s:ByteArray}{q:Prc}(h:Rr.findP l s=some q):∃i,∃hi:i<l.length,l[i]=q∧l[i].name=s∧∀j (hj:j<i),l[j].name≠s:=by
 induction l with
 | nil=>cases h
 | cons x l ih=>
  unfold Rr.findP at h
  split at h
  ·rename_i e
   cases h
   exact⟨0,by simp,rfl,e,fun j hj=>by omega⟩
  ·rename_i e
   obtain⟨i,hi,h1,h2,h3⟩:=ih h
   refine⟨i+1,by simp;omega,h1,h2,fun j hj=> ?_⟩
   cases j with
   | zero=>exact e
   | succ j=>exact h3 j (by omega)
theorem rprocC {w:World}{L rb pb lb fuel lc:Nat}{ev:Value}{g:Rr.Sg}{P:Prg}{cv av nv qv:Value}(hR:RS w L rb pb lb fuel lc ev g)(hP:Pm w pb L P cv av nv qv){s:ByteArray}{q:Prc}(hq:Rr.findP P.procs s=some q):
 Calls Tryz.prog 23 #[.pointer (some ⟨rb,0,none⟩),.string s] w fun x w'=>∃b off cs,x=.returned (.pointer (some ⟨b,off,none⟩))∧At w (fun b=>b<L) b off cs∧PcIs w (fun b=>b<L) q cs∧Below w.heap.size w w':=by
 have hmf:=mkF
 obtain⟨i,hi,rfl,hs,hj⟩:=findP_first hq
 obtain⟨_,_,_,_,hcs,_,_,_,css,⟨ao,b,off,c,rfl,hr⟩,hc1,hk⟩:=hP.is
 simp only[List.cons.injEq,and_true] at hcs
 obtain⟨rfl,rfl,rfl,rfl⟩:=hcs
 have hnm:∀k (h1:k<css.length) (h2:k<P.procs.length),∃x0 x2 x3 x4 x5 x6 x7 x8,css[k]=[x0,.string P.procs[k].name,x2,x3,x4,x5,x6,x7,x8]:=fun k h1 h2=>by
  obtain⟨pv,rl,bv,fv,yv,h3,_⟩:=hk k h2 h1
  exact⟨_,_,_,_,_,_,_,_,h3⟩
 obtain⟨t,ht⟩:∃t:Array Value→Bool,t=fun x=>match (x[1]? :Option Value) with | some (.string a)=>decide (a=s)| _=>false:=⟨_,rfl⟩
 have htv:∀x0 a x2 x3 x4 x5 x6 x7 x8,t #[x0,.string a,x2,x3,x4,x5,x6,x7,x8]=decide (a=s):=fun _ _ _ _ _ _ _ _ _=>by rw[ht];rfl
 have HF:Hid (firstI t (css.map List.toArray)=(i:Int)):=by
  refine firstI_hit (by simp;omega) (fun x hx=> ?_) ?_
  ·obtain⟨j,hj1,rfl⟩:=List.mem_iff_getElem.1 hx
   simp at hj1
   simp only[List.getElem_take,List.getElem_map]
   obtain⟨x0,x2,x3,x4,x5,x6,x7,x8,e⟩:=hnm j (by omega) (by omega)
   rw[e]
   exact(htv _ _ _ _ _ _ _ _ _).trans (by simpa using hj j (by omega))
  ·simp only[List.getElem_map]
   obtain⟨x0,x2,x3,x4,x5,x6,x7,x8,e⟩:=hnm i (by omega) hi
   rw[e]
   exact(htv _ _ _ _ _ _ _ _ _).trans (by simpa using hs)
 obtain⟨w2,hw2⟩:∃w2,w2=w.alloc (.cells #[.string s] 9):=⟨_,rfl⟩
 have hb2:=al1 hw2
 have hidx:=indexFuncQ 33 #[.pointer (some ⟨w.heap.size,0,none⟩)] (enters_of Tryz.func33 (by kernel_rfl) rfl) t ao b off css.length c (css.map List.toArray) w2 (by simp) (by have:=hP.few.2;omega) (hr.rws.later hb2) (fun W x hx hW=>by
  obtain⟨y,hy,rfl⟩:=List.mem_map.1 hx
  obtain⟨k,hk1,rfl⟩:=List.getElem_of_mem hy
  obtain⟨x0,x2,x3,x4,x5,x6,x7,x8,e⟩:=hnm k hk1 (by omega)
  rw[e]
  show Calls _ _ _ _ fun e w'=>e=.returned (.bool (t #[x0,.string P.procs[k].name,x2,x3,x4,x5,x6,x7,x8]))∧_
  rw[htv]
  exact tstQ (ku hW (aa hw2)))
 rw[HF.out] at hidx
 have hic:i<css.length:=by omega
 have HAT:Hid (At w (fun b=>b<L) b (off+i*9) css[i]∧PcIs w (fun b=>b<L) P.procs[i] css[i]):=⟨hr.at hic,hk i hi hic⟩
 have z3:w.cell? ⟨rb,3,none⟩=some (.pointer (some ⟨pb,0,none⟩)):=hR.cells.2.2.1
 have hlr:=hR.cells.2.2.2.2.2.2
 have y3:w.cell? ⟨pb,3,none⟩=some (.slice ao css.length c):=cl hP.blk 3 rfl
 have hlp:=lt_of_block hP.blk
 have hadr:=hr.adr (by omega)
 have hbl:=hr.lt (by omega)
 obtain⟨n,hn⟩:∃n,n=css.length:=⟨_,rfl⟩
 have hm:n≤1000:=by have:=hP.few.2;omega
 rw[←hn] at hidx y3
 have hin:i<n:=by omega
 have HB2:=hidq hb2
 clear hb2 hnm htv ht hj hk hc1 hP hr hs hn hR HF
 subst hadr
 go_enter Tryz.func23,Tryz.ntmps23
 go_wp2_with fail
 rw[←hw2]
 clear hw2
 refine hidx.mono ?_
 rintro x w3 ⟨rfl,hb3⟩
 have hb:=bu HB2.out hb3
 have z4:=(hb.cell (p:=⟨rb,3,none⟩) hlr).trans z3
 have y4:=(hb.cell (p:=⟨pb,3,none⟩) hlp).trans y3
 have hl1:rb<w3.heap.size:=Nat.lt_of_lt_of_le hlr hb.size
 have hl2:pb<w3.heap.size:=Nat.lt_of_lt_of_le hlp hb.size
 have hl3:b<w3.heap.size:=Nat.lt_of_lt_of_le hbl hb.size
 have HB:=hidq hb
 clear hidx hb3 hb z3 y3 hlr hlp hbl
 go_wp2
 go_ret
 exact⟨_,_,_,rfl,HAT.out.1,HAT.out.2,HB.out⟩
def VsIs (_:World)(_:Nat→Prop)(a:ByteArray×Int)(cs:List Value):Prop:=∃lv,cs=[.string a.1,.int .i64 a.2,lv]∧lv.oneCell'=true
theorem isElVs:IsEl VsIs 3:=⟨fun h _=>h,fun h _=>h,fun h=>by obtain⟨lv,rfl,_⟩:=h;rfl,fun h u hu=>by
 obtain⟨lv,rfl,hl⟩:=h
 simp only[List.mem_cons,List.not_mem_nil,or_false] at hu
 rcases hu with rfl | rfl | rfl
 ·rfl
 ·rfl
 ·exact hl⟩
structure Lb (w0:World)(L pb:Nat)(P:Prg)(cv av nv qv:Value):Prop where
 low:L≤w0.heap.size
 blk:w0.heap[pb]? =some (.cells #[cv,av,nv,qv] 27 (0,0))
 pl:pb<L
 is:PgIs w0 (fun b=>b<L) P [cv,av,nv,qv]
 few:P.chans.length≤1000∧P.procs.length≤1000
def KOK (w0:World)(L:Nat)(P:Prg)(vk:Sk.Vs)(K:List KE):Prop:=∀q∈K,q.1.1<L∧∀x cs,At w0 (fun b=>b<L) q.1.1 q.1.2 cs→TrIs w0 (fun b=>b<L) x cs→∀m t,Sk.typ P vk m x=some t→t=q.2
structure LkE (w0 w:World)(L kb pb:Nat)(X:Nat→Prop)(P:Prg)(vs vk:Sk.Vs)(f:Nat)(u:Bool)(N:Nat)(vo:Option Addr)(vc mk ma mr:Nat)(K:List KE):Prop where
 bel:Below L w0 w
 blk:w.heap[kb]? =some (.cells #[.pointer (some ⟨pb,0,none⟩),.slice vo vs.length vc,.map (some mk),.int .i64 (f:Nat),.map (some ma),.map (some mr)] 167 (0,0))
 own:OwnL VsIs w L 85 3 (.slice vo vs.length vc) vs
 kn:KnM w mk K
 ok:KOK w0 L P vk K
 asks:MapA w ma N
 xk:X kb∧X mk∧X ma
 xo:∀k,(.slice vo vs.length vc:Value).ownBlock=some k→X k∧k≠kb
 ne:mk≠ma∧mk≠mr∧ma≠mr
 rt:u=false→X mr∧∃clock,w.heap[mr]? =some (.map #[] clock)
 up:∀b,X b→L≤b∧b<w.heap.size
 few:vs.length≤1000
 mrl:mr<w.heap.size
 mre:mr=L+2
def Lk (w0 w:World)(L kb pb:Nat)(X:Nat→Prop)(P:Prg)(vs vk:Sk.Vs)(f:Nat)(u:Bool)(N:Nat):Prop:=∃vo vc mk ma mr K,LkE w0 w L kb pb X P vs vk f u N vo vc mk ma mr K
def Kx (X:Nat→Prop)(w w':World):Prop:=Keeps (fun b=>¬X b) w w'
theorem Kx.refl (X:Nat→Prop)(w:World):Kx X w w:=Keeps.refl _ _
theorem Kx.trans {X:Nat→Prop}{a b c:World}(h:Kx X a b)(g:Kx X b c):Kx X a c:=Keeps.trans h g
theorem Kx.bel {X:Nat→Prop}{w w':World}(h:Below w.heap.size w w'):Kx X w w':=⟨h.size,fun b _ hl=>h.block b hl⟩
theorem bel_into {L:Nat}{w0 w w':World}(h:Below L w0 w)(hL:L≤w.heap.size)(g:Below w.heap.size w w'):Below L w0 w':=h.trans (g.mono hL)
theorem LkE.keep {w0 w w':World}{L kb pb:Nat}{X:Nat→Prop}{P:Prg}{vs vk:Sk.Vs}{f:Nat}{u:Bool}{N:Nat}{vo:Option Addr}{vc mk ma mr:Nat}{K:List KE}(h:LkE w0 w L kb pb X P vs vk f u N vo vc mk ma mr K)(hb:Below L w0 w')(hs:w.heap.size≤w'.heap.size)(hk:∀b,X b→w'.heap[b]? =w.heap[b]?):LkE w0 w' L kb pb X P vs vk f u N vo vc mk ma mr K:=by
 obtain⟨css,h1,h2,h3⟩:=h.own.ex
 have hLw:L≤kb:=(h.up kb h.xk.1).1
 refine⟨hb,by rw[hk kb h.xk.1];exact h.blk,⟨css,own_kept2 h1 fun k e=>hk k (h.xo k e).1,h2,h3⟩,h.kn.keeps (hk mk h.xk.2.1) fun q hq=> ?_,h.ok,h.asks.keeps (hk ma h.xk.2.2),h.xk,h.xo,h.ne,fun e=>⟨(h.rt e).1,by rw[hk mr (h.rt e).1];exact(h.rt e).2⟩,fun b hb'=>⟨(h.up b hb').1,Nat.lt_of_lt_of_le (h.up b hb').2 hs⟩,h.few,Nat.lt_of_lt_of_le h.mrl hs,h.mre⟩
 exact(hb.block _ (h.ok q hq).1).trans (h.bel.block _ (h.ok q hq).1).symm
theorem LkE.later {w0 w w':World}{L kb pb:Nat}{X:Nat→Prop}{P:Prg}{vs vk:Sk.Vs}{f:Nat}{u:Bool}{N:Nat}{vo:Option Addr}{vc mk ma mr:Nat}{K:List KE}(h:LkE w0 w L kb pb X P vs vk f u N vo vc mk ma mr K)(hb:Below w.heap.size w w'):LkE w0 w' L kb pb X P vs vk f u N vo vc mk ma mr K:=
 h.keep (bel_into h.bel (by have:=h.up kb h.xk.1;omega) hb) hb.size fun b hx=>hb.block b (h.up b hx).2
theorem Lk.later {w0 w w':World}{L kb pb:Nat}{X:Nat→Prop}{P:Prg}{vs vk:Sk.Vs}{f:Nat}{u:Bool}{N:Nat}(h:Lk w0 w L kb pb X P vs vk f u N)(hb:Below w.heap.size w w'):Lk w0 w' L kb pb X P vs vk f u N∧Kx X w w':=by
 obtain⟨vo,vc,mk,ma,mr,K,h⟩:=h
 exact⟨⟨vo,vc,mk,ma,mr,K,h.later hb⟩,Kx.bel hb⟩
theorem bel_grown {L B:Nat}{w0 w w':World}(h:Below L w0 w)(hL:L≤B)(hz:L≤w.heap.size)(hg:w.grownBy w' (some B)):Below L w0 w':=h.grown hg hz fun k e=>by cases e;exact hL
theorem LkE.putA {w0 w w':World}{L kb pb:Nat}{X:Nat→Prop}{P:Prg}{vs vk:Sk.Vs}{f:Nat}{u:Bool}{N:Nat}{vo:Option Addr}{vc mk ma mr:Nat}{K:List KE}(h:LkE w0 w L kb pb X P vs vk f u N vo vc mk ma mr K)(hm:MapA w' ma (N+1))(hg:w.grownBy w' (some ma)):LkE w0 w' L kb pb X P vs vk f u (N+1) vo vc mk ma mr K∧Kx X w w':=by
 obtain⟨css,h1,h2,h3⟩:=h.own.ex
 have hma:=(h.up ma h.xk.2.2).1
 have hmw:=(h.up ma h.xk.2.2).2
 have hb:=bel_grown h.bel hma (by omega) hg
 have hne:∀b,b<w.heap.size→b≠ma→w'.heap[b]? =w.heap[b]? :=fun b hb1 e=>hg.block b hb1 fun e'=>e (by injection e')
 obtain⟨D,es,clock,hma2,_⟩:=h.asks
 have hkb:kb≠ma:=fun e=>by have:=h.blk;rw[e,hma2] at this;cases this
 refine⟨⟨hb,by rw[hne kb (h.up kb h.xk.1).2 hkb];exact h.blk,⟨css,own_kept2 h1 fun k e=>hne k (h1.lt k e).2 fun e'=> ?_,h2,h3⟩,h.kn.keeps (hne mk (h.up mk h.xk.2.1).2 h.ne.1) fun q hq=> ?_,h.ok,hm,h.xk,h.xo,h.ne,fun e=>⟨(h.rt e).1,by rw[hne mr (h.up mr (h.rt e).1).2 (Ne.symm h.ne.2.2)];exact(h.rt e).2⟩,fun b hb'=>⟨(h.up b hb').1,Nat.lt_of_lt_of_le (h.up b hb').2 hg.size⟩,h.few,Nat.lt_of_lt_of_le h.mrl hg.size,h.mre⟩,⟨hg.size,fun b hx hl=>hne b hl fun e=>hx (by rw[e];exact h.xk.2.2)⟩⟩
 ·rcases h1.2 with⟨hv,_⟩|⟨g,cap,cur,hv,_,hgg,_⟩
  ·rw[hv] at e;cases e
  ·rw[hv] at e
   have e2:g=k:=by simpa[Value.ownBlock] using e
   rw[e2,e',hma2] at hgg
   cases hgg
 ·exact(hb.block _ (h.ok q hq).1).trans (h.bel.block _ (h.ok q hq).1).symm
theorem LkE.putK {w0 w w':World}{L kb pb:Nat}{X:Nat→Prop}{P:Prg}{vs vk:Sk.Vs}{f:Nat}{u:Bool}{N:Nat}{vo:Option Addr}{vc mk ma mr:Nat}{K K':List KE}(h:LkE w0 w L kb pb X P vs vk f u N vo vc mk ma mr K)(hm:KnM w' mk K')(hok:KOK w0 L P vk K')(hg:w.grownBy w' (some mk)):LkE w0 w' L kb pb X P vs vk f u N vo vc mk ma mr K'∧Kx X w w':=by
 obtain⟨css,h1,h2,h3⟩:=h.own.ex
 have hma:=(h.up mk h.xk.2.1).1
 have hmw:=(h.up mk h.xk.2.1).2
 have hb:=bel_grown h.bel hma (by omega) hg
 have hne:∀b,b<w.heap.size→b≠mk→w'.heap[b]? =w.heap[b]? :=fun b hb1 e=>hg.block b hb1 fun e'=>e (by injection e')
 obtain⟨⟨es,clock,hma2,_⟩,_⟩:=h.kn
 have hkb:kb≠mk:=fun e=>by have:=h.blk;rw[e,hma2] at this;cases this
 refine⟨⟨hb,by rw[hne kb (h.up kb h.xk.1).2 hkb];exact h.blk,⟨css,own_kept2 h1 fun k e=>hne k (h1.lt k e).2 fun e'=> ?_,h2,h3⟩,hm,hok,h.asks.keeps (hne ma (h.up ma h.xk.2.2).2 (Ne.symm h.ne.1)),h.xk,h.xo,h.ne,fun e=>⟨(h.rt e).1,by rw[hne mr (h.up mr (h.rt e).1).2 (Ne.symm h.ne.2.1)];exact(h.rt e).2⟩,fun b hb'=>⟨(h.up b hb').1,Nat.lt_of_lt_of_le (h.up b hb').2 hg.size⟩,h.few,Nat.lt_of_lt_of_le h.mrl hg.size,h.mre⟩,⟨hg.size,fun b hx hl=>hne b hl fun e=>hx (by rw[e];exact h.xk.2.1)⟩⟩
 rcases h1.2 with⟨hv,_⟩|⟨g,cap,cur,hv,_,hgg,_⟩
 ·rw[hv] at e;cases e
 ·rw[hv] at e
  have e2:g=k:=by simpa[Value.ownBlock] using e
  rw[e2,e',hma2] at hgg
  cases hgg
theorem LkE.more {w0 w:World}{L kb pb:Nat}{X:Nat→Prop}{P:Prg}{vs vk:Sk.Vs}{f:Nat}{u:Bool}{N M:Nat}{vo:Option Addr}{vc mk ma mr:Nat}{K:List KE}(h:LkE w0 w L kb pb X P vs vk f u N vo vc mk ma mr K)(hm:N≤M):LkE w0 w L kb pb X P vs vk f u M vo vc mk ma mr K:=
 ⟨h.bel,h.blk,h.own,h.kn,h.ok,h.asks.mono hm,h.xk,h.xo,h.ne,h.rt,h.up,h.few,h.mrl,h.mre⟩
theorem Lk.more {w0 w:World}{L kb pb:Nat}{X:Nat→Prop}{P:Prg}{vs vk:Sk.Vs}{f:Nat}{u:Bool}{N M:Nat}(h:Lk w0 w L kb pb X P vs vk f u N)(hm:N≤M):Lk w0 w L kb pb X P vs vk f u M:=by
 obtain⟨vo,vc,mk,ma,mr,K,h⟩:=h
 exact⟨vo,vc,mk,ma,mr,K,h.more hm⟩
theorem LkE.cells {w0 w:World}{L kb pb:Nat}{X:Nat→Prop}{P:Prg}{vs vk:Sk.Vs}{f:Nat}{u:Bool}{N:Nat}{vo:Option Addr}{vc mk ma mr:Nat}{K:List KE}(h:LkE w0 w L kb pb X P vs vk f u N vo vc mk ma mr K):w.cell? ⟨kb,0,none⟩=some (.pointer (some ⟨pb,0,none⟩))∧w.cell? ⟨kb,1,none⟩=some (.slice vo vs.length vc)∧w.cell? ⟨kb,2,none⟩=some (.map (some mk))∧w.cell? ⟨kb,3,none⟩=some (.int .i64 (f:Nat))∧w.cell? ⟨kb,4,none⟩=some (.map (some ma))∧w.cell? ⟨kb,5,none⟩=some (.map (some mr))∧kb<w.heap.size∧∀i,w.frozen? ⟨kb,i,none⟩=false:=
 ⟨cl h.blk 0 rfl,cl h.blk 1 rfl,cl h.blk 2 rfl,cl h.blk 3 rfl,cl h.blk 4 rfl,cl h.blk 5 rfl,lt_of_block h.blk,fun i=>fz h.blk i⟩
abbrev fndV (o:Option Int):Value:=.agg #[.bool o.isSome,.int .i64 (o.getD 0)]
theorem set_alloc {w wx:World}{o:Obj}{b n:Nat}(hb:b≠n)(h:∀c,c≠n→wx.heap[c]? =w.heap[c]?)(hz:wx.heap.size=w.heap.size):(wx.alloc o).heap[b]? =(w.alloc o).heap[b]? :=by
 rcases Nat.lt_trichotomy b w.heap.size with h1 | h1 | h1
 ·rw[heap_alloc_old w _ h1,heap_alloc_old wx _ (by omega)]
  exact h b hb
 ·subst h1
  rw[heap_alloc_new w]
  have:=heap_alloc_new wx o
  rw[hz] at this
  exact this
 ·rw[Array.getElem?_eq_none (by simp;omega),Array.getElem?_eq_none (by simp;omega)]
theorem findEnd {w0 w w2 w3 w4:World}{L kb pb:Nat}{X:Nat→Prop}{P:Prg}{vs vk:Sk.Vs}{f:Nat}{u:Bool}{N:Nat}{b:Bool}{t:Int}(h:Lk w0 w L kb pb X P vs vk f u N)(h3:Lk w0 w3 L kb pb X P vs vk f u (N+1))(hb:Below w.heap.size w w2)(hk:Kx X w2 w3)(hr4:w4.heap[w.heap.size]? =some (.cells #[.bool b,.int .i64 t] 240 (0,0)))(hset:∀b,b≠w.heap.size→w4.heap[b]? =w3.heap[b]?)(hz4:w4.heap.size=w3.heap.size)(hsm:Sm w3 w4)(hr:w2.heap[w.heap.size]? =some (.cells #[.bool false,.int .i64 0] 240 (0,0))):
 w4.heap[w.heap.size]? =some (.cells #[.bool b,.int .i64 t] 240 (0,0))∧Lk w0 w4 L kb pb X P vs vk f u (N+1)∧Kx X w w4:=by
 obtain⟨vo,vc,mk,ma,mr,K,hE⟩:=h
 have hnx:¬X w.heap.size:=fun hx=>by have:=(hE.up _ hx).2;omega
 have hz2:=hb.size
 have hlt:=lt_of_block hr
 have hz3:=hk.size
 refine⟨hr4,?_,⟨by omega,fun b hx hl=> ?_⟩⟩
 ·obtain⟨vo',vc',mk',ma',mr',K',h3⟩:=h3
  have hL:=(hE.up kb hE.xk.1)
  refine⟨vo',vc',mk',ma',mr',K',h3.keep ⟨hsm.os.trans h3.bel.os,hsm.tape.trans h3.bel.tape,hsm.out.trans h3.bel.output,by have:=h3.bel.size;omega,fun k hk=>(hset k (by omega)).trans (h3.bel.block k hk)⟩ (by omega) fun b hx=>hset b fun e=>hnx (by rw[←e];exact hx)⟩
 ·rw[hset b (by omega),hk.block b hx (by omega),hb.block b hl]
theorem findK {w0 w:World}{L kb pb:Nat}{X:Nat→Prop}{P:Prg}{vs vk:Sk.Vs}{f:Nat}{u:Bool}{N:Nat}(h:Lk w0 w L kb pb X P vs vk f u N){s:ByteArray}(hs:s.size≤maxLen)(hN:N<1000000000):
 Calls Tryz.prog 173 #[.pointer (some ⟨kb,0,none⟩),.string s] w fun r w'=>r=.returned (fndV (Sk.lastV vs s))∧Lk w0 w' L kb pb X P vs vk f u (N+1)∧Kx X w w':=by
 have HH:=hidq h
 obtain⟨vo,vc,mk,ma,mr,K,hE⟩:=h
 obtain⟨w1,hw1⟩:∃w1,w1=w.alloc (.cells #[.bool false,.int .i64 0] 240):=⟨_,rfl⟩
 have hE1:=hE.later (al1 hw1)
 obtain⟨css,⟨ao,b,off,c,hv,hr⟩,hc1,hk⟩:=hE1.own.rows isElVs
 simp only[Value.slice.injEq] at hv
 obtain⟨rfl,hlen,rfl⟩:=hv
 have hcs:∀k (h1:k<css.length) (h2:k<vs.length),∃lv,css[k]=[.string vs[k].1,.int .i64 vs[k].2,lv]:=fun k h1 h2=>by
  obtain⟨lv,e,_⟩:=hk k h2 h1
  exact⟨lv,e⟩
 obtain⟨c0,c1,c2,c3,c4,c5,hlt,hz⟩:=hE1.cells
 obtain⟨n,hn⟩:∃n,n=vs.length:=⟨_,rfl⟩
 rw[←hn] at c1
 have hn1:n≤1000:=by have:=hE.few;omega
 have HROW:=hidq hr
 have HCS:=hidq hcs
 have HNL:Hid (n=vs.length∧n=css.length):=⟨hn,by omega⟩
 have HE1:=hidq hE1
 have HB1:Hid (Below w.heap.size w w1):=al1 hw1
 have HNX:Hid (¬X w.heap.size):=fun hx=>by have:=(hE.up _ hx).2;omega
 have HR1:Hid (w1.heap[w.heap.size]? =some (.cells #[.bool false,.int .i64 0] 240 (0,0))):=aa hw1
 have HSZ:Hid (w1.heap.size=w.heap.size+1):=by show _=_;rw[hw1];simp
 have HADR:Hid (0<n→vo=some ⟨b,off,none⟩∧b<w1.heap.size):=fun hp=>⟨hr.adr (by omega),hr.lt (by omega)⟩
 clear hE hE1 hr hk hcs hn hlen hc1
 go_enter Tryz.func173,Tryz.ntmps173
 go_upto_region 1 with fail
 rw[←hw1]
 clear hw1
 go_wp2
 go_loopw [5] (fun i wr=>∃z:Int,i=.int .i64 z∧Hid (∃k:Nat,k≤n∧z=(k:Int) - 1∧∀j (hj:j<vs.length),k≤j→vs[j].1≠s)∧wr=w1) (fun i _=>(intOf i+1).toNat)
 case atStart=>exact⟨_,rfl,⟨n,Nat.le_refl _,by go_num,fun j hj hk=>by have:=HNL.out.1;omega⟩,rfl⟩
 case round=>
  obtain⟨z,rfl,HZ,rfl⟩:=hrel
  obtain⟨k,hk,hz',hno⟩:=HZ.out
  cases k with
  | zero=>
   obtain rfl:z= -1:=by omega
   have HM:Hid (Sk.lastV vs s=none):=Sk.lastV_miss fun j hj=>hno j hj (Nat.zero_le _)
   clear hno hz' HZ hk
   have HMV:Hid (fndV (Sk.lastV vs s)=.agg #[.bool false,.int .i64 0]):=by show _=_;rw[HM.out];rfl
   obtain⟨w2,hw2⟩:∃w2,w2=wr.alloc (.cells #[.bool false,.int .i64 0] 240):=⟨_,rfl⟩
   have HW2:=hidq hw2
   have HB2:Hid (Below w.heap.size w w2):=bu HB1.out (al1 hw2)
   have HLK2:=hidq (HH.out.later HB2.out)
   have HX2:Hid (w2.heap[w.heap.size]? =some (.cells #[.bool false,.int .i64 0] 240 (0,0))):=ku (al1 hw2) HR1.out
   have HR:=HR1.out
   have r0:wr.cell? ⟨w.heap.size,0,none⟩=some (.bool false):=cl HR 0 rfl
   have r1:wr.cell? ⟨w.heap.size,1,none⟩=some (.int .i64 0):=cl HR 1 rfl
   have g0:=fz HR 0
   have g1:=fz HR 1
   have hwl:=lt_of_block HR
   clear HR
   have hf:(-1:Int)<(f:Int):=by omega
   have hE2:=HE1.out.later (al1 hw2)
   have hE2d:=hE2.later (show Below w2.heap.size w2 w2.drew from(Below.refl _ _).drew)
   obtain⟨w3,hup,hm3,hg3⟩:=hE2d.asks.put hs (by unfold maxLen;omega) false 0
   have hp3:=hE2d.putA hm3 hg3
   have HP3:Hid (Lk w0 w3 L kb pb X P vs vk f u (N+1)∧Kx X w2 w3):=⟨⟨_,_,_,_,_,_,hp3.1⟩,(Kx.bel (Below.refl _ _).drew).trans hp3.2⟩
   have hma:∀(b:Nat) (C:Array Value) (e:TypeId),w2.heap[b]? =some (.cells C e (0,0))→w3.heap[b]? =some (.cells C e (0,0)):=fun b C e h=>(hg3.block b (lt_of_block h) fun e'=>by
    obtain⟨D,es,clock,h5,_⟩:=hE2.asks
    cases e'
    rw[h5] at h
    cases h).trans h
   have hT3:=hma _ _ _ (aa hw2)
   have hR3:=hma _ _ _ HX2.out
   have q0:w3.cell? ⟨w.heap.size,0,none⟩=some (.bool false):=cl hR3 0 rfl
   have q1:w3.cell? ⟨w.heap.size,1,none⟩=some (.int .i64 0):=cl hR3 1 rfl
   have p0:=fz hR3 0
   have p1:=fz hR3 1
   have u0:w3.cell? ⟨wr.heap.size,0,none⟩=some (.bool false):=cl hT3 0 rfl
   have u1:w3.cell? ⟨wr.heap.size,1,none⟩=some (.int .i64 0):=cl hT3 1 rfl
   have ql:=lt_of_block hR3
   have ul:=lt_of_block hT3
   have hd':decide ((-1:Int)<(f:Int))=true:=by simpa using hf
   have HFIN:Hid (∀w4:World,w4=(w3.setCell ⟨w.heap.size,0,none⟩ (.bool false)).setCell ⟨w.heap.size,1,none⟩ (.int .i64 0)→w4.heap[w.heap.size]? =some (.cells #[.bool false,.int .i64 0] 240 (0,0))∧Lk w0 w4 L kb pb X P vs vk f u (N+1)∧Kx X w w4):=fun w4 h4=>findEnd HH.out HP3.out.1 HB2.out HP3.out.2 (by rw[h4];simp[World.setCell,Array.getElem?_modify,(HP3.out.2.block _ HNX.out (lt_of_block HX2.out)).trans HX2.out]) (fun b hb=>by rw[h4];exact(Below.heap_setCell _ _ _ _ hb).trans (Below.heap_setCell _ _ _ _ hb)) (by rw[h4];simp[World.setCell]) (by rw[h4];exact⟨rfl,rfl,rfl⟩) HX2.out
   rw[hw2] at hup
   clear hE2 hE2d hm3 hg3 hp3 hma hT3 hR3 hw2
   go_wp2
   go_region
   go_wp2
   obtain⟨w4,hw4⟩:∃w4,w4=(w3.setCell ⟨w.heap.size,0,none⟩ (.bool false)).setCell ⟨w.heap.size,1,none⟩ (.int .i64 0):=⟨_,rfl⟩
   obtain⟨e4,e5⟩:=HFIN.out w4 hw4
   have v0:=cl e4 0 rfl
   have v1:=cl e4 1 rfl
   rw[←hw4]
   refine bodyPost_ret (v:=.agg #[.bool false,.int .i64 0]) (by simp[results,Tryz.results173,go_sem,v0,v1]) rfl ⟨by rw[HMV.out],e5⟩
  | succ k=>
   obtain rfl:z=(k:Int):=by omega
   have hkc:k<css.length:=by have:=HNL.out;omega
   have hkv:k<vs.length:=by have:=HNL.out;omega
   obtain⟨lv,hl⟩:=HCS.out k hkc hkv
   have y0:=HROW.out.cell k hkc 0 _ (by rw[hl];rfl)
   have y1:=HROW.out.cell k hkc 1 _ (by rw[hl];rfl)
   simp only[Nat.add_zero] at y0
   obtain⟨hvo,hbl⟩:=HADR.out (by omega)
   obtain⟨nm,hnm⟩:∃x,x=vs[k].1:=⟨_,rfl⟩
   obtain⟨ty,hty⟩:∃x,x=vs[k].2:=⟨_,rfl⟩
   rw[←hnm] at y0
   rw[←hty] at y1
   have hq:=beq_dec nm s
   have hp:decide ((0:Int)≤(k:Int))=true:=by simp
   have hkn:k<n:=by omega
   by_cases he:nm=s
   ·have hd:decide (nm=s)=true:=by simpa using he
    have HM:Hid (Sk.lastV vs s=some ty):=by
     show _=_
     rw[hty]
     exact Sk.lastV_hit hkv (by rw[←hnm];exact he) fun j hj hij=>hno j hj hij
    clear hno hz' HZ hk hl hnm hty he
    subst hvo
    have HMV:Hid (fndV (Sk.lastV vs s)=.agg #[.bool true,.int .i64 ty]):=by show _=_;rw[HM.out];rfl
    obtain⟨w2,hw2⟩:∃w2,w2=wr.alloc (.cells #[.bool true,.int .i64 ty] 240):=⟨_,rfl⟩
    have HW2:=hidq hw2
    have HB2:Hid (Below w.heap.size w w2):=bu HB1.out (al1 hw2)
    have HLK2:=hidq (HH.out.later HB2.out)
    have HX2:Hid (w2.heap[w.heap.size]? =some (.cells #[.bool false,.int .i64 0] 240 (0,0))):=ku (al1 hw2) HR1.out
    have HR:=HR1.out
    have r0:wr.cell? ⟨w.heap.size,0,none⟩=some (.bool false):=cl HR 0 rfl
    have r1:wr.cell? ⟨w.heap.size,1,none⟩=some (.int .i64 0):=cl HR 1 rfl
    have g0:=fz HR 0
    have g1:=fz HR 1
    have hwl:=lt_of_block HR
    clear HR
    by_cases hf:(k:Int)<(f:Int)
    ·have hE2:=HE1.out.later (al1 hw2)
     have hE2d:=hE2.later (show Below w2.heap.size w2 w2.drew from(Below.refl _ _).drew)
     obtain⟨w3,hup,hm3,hg3⟩:=hE2d.asks.put hs (by unfold maxLen;omega) true ty
     have hp3:=hE2d.putA hm3 hg3
     have HP3:Hid (Lk w0 w3 L kb pb X P vs vk f u (N+1)∧Kx X w2 w3):=⟨⟨_,_,_,_,_,_,hp3.1⟩,(Kx.bel (Below.refl _ _).drew).trans hp3.2⟩
     have hma:∀(b:Nat) (C:Array Value) (e:TypeId),w2.heap[b]? =some (.cells C e (0,0))→w3.heap[b]? =some (.cells C e (0,0)):=fun b C e h=>(hg3.block b (lt_of_block h) fun e'=>by
      obtain⟨D,es,clock,h5,_⟩:=hE2.asks
      cases e'
      rw[h5] at h
      cases h).trans h
     have hT3:=hma _ _ _ (aa hw2)
     have hR3:=hma _ _ _ HX2.out
     have q0:w3.cell? ⟨w.heap.size,0,none⟩=some (.bool false):=cl hR3 0 rfl
     have q1:w3.cell? ⟨w.heap.size,1,none⟩=some (.int .i64 0):=cl hR3 1 rfl
     have p0:=fz hR3 0
     have p1:=fz hR3 1
     have u0:w3.cell? ⟨wr.heap.size,0,none⟩=some (.bool true):=cl hT3 0 rfl
     have u1:w3.cell? ⟨wr.heap.size,1,none⟩=some (.int .i64 ty):=cl hT3 1 rfl
     have ql:=lt_of_block hR3
     have ul:=lt_of_block hT3
     have hd':decide ((k:Int)<(f:Int))=true:=by simpa using hf
     have HFIN:Hid (∀w4:World,w4=(w3.setCell ⟨w.heap.size,0,none⟩ (.bool true)).setCell ⟨w.heap.size,1,none⟩ (.int .i64 ty)→w4.heap[w.heap.size]? =some (.cells #[.bool true,.int .i64 ty] 240 (0,0))∧Lk w0 w4 L kb pb X P vs vk f u (N+1)∧Kx X w w4):=fun w4 h4=>findEnd HH.out HP3.out.1 HB2.out HP3.out.2 (by rw[h4];simp[World.setCell,Array.getElem?_modify,(HP3.out.2.block _ HNX.out (lt_of_block HX2.out)).trans HX2.out]) (fun b hb=>by rw[h4];exact(Below.heap_setCell _ _ _ _ hb).trans (Below.heap_setCell _ _ _ _ hb)) (by rw[h4];simp[World.setCell]) (by rw[h4];exact⟨rfl,rfl,rfl⟩) HX2.out
     rw[hw2] at hup
     clear hE2 hE2d hm3 hg3 hp3 hma hT3 hR3 hw2
     go_wp2
     go_region
     go_wp2
     obtain⟨w4,hw4⟩:∃w4,w4=(w3.setCell ⟨w.heap.size,0,none⟩ (.bool true)).setCell ⟨w.heap.size,1,none⟩ (.int .i64 ty):=⟨_,rfl⟩
     obtain⟨e4,e5⟩:=HFIN.out w4 hw4
     have v0:=cl e4 0 rfl
     have v1:=cl e4 1 rfl
     rw[←hw4]
     refine bodyPost_ret (v:=.agg #[.bool true,.int .i64 ty]) (by simp[results,Tryz.results173,go_sem,v0,v1]) rfl ⟨by rw[HMV.out],e5⟩
    ·have hd':decide ((k:Int)<(f:Int))=false:=by simpa using hf
     have HFIN:Hid (∀w4:World,w4=((wr.setCell ⟨w.heap.size,0,none⟩ (.bool true)).setCell ⟨w.heap.size,1,none⟩ (.int .i64 ty)).alloc (.cells #[.bool true,.int .i64 ty] 240)→w4.heap[w.heap.size]? =some (.cells #[.bool true,.int .i64 ty] 240 (0,0))∧Lk w0 w4 L kb pb X P vs vk f u (N+1)∧Kx X w w4):=fun w4 h4=>findEnd HH.out (HLK2.out.1.more (Nat.le_succ _)) HB2.out (Kx.refl _ _) (by rw[h4];exact heap_past_alloc (by simp[World.setCell,Array.getElem?_modify,HR1.out])) (fun b hb=>by rw[h4,HW2.out];exact set_alloc hb (fun c hc=>(Below.heap_setCell _ _ _ _ hc).trans (Below.heap_setCell _ _ _ _ hc)) (by simp[World.setCell])) (by rw[h4,HW2.out];simp[World.setCell]) (by rw[h4,HW2.out];exact⟨rfl,rfl,rfl⟩) HX2.out
     clear hw2
     go_wp2
     obtain⟨w4,hw4⟩:∃w4,w4=((wr.setCell ⟨w.heap.size,0,none⟩ (.bool true)).setCell ⟨w.heap.size,1,none⟩ (.int .i64 ty)).alloc (.cells #[.bool true,.int .i64 ty] 240):=⟨_,rfl⟩
     obtain⟨e4,e5⟩:=HFIN.out w4 hw4
     have v0:=cl e4 0 rfl
     have v1:=cl e4 1 rfl
     rw[←hw4]
     refine bodyPost_ret (v:=.agg #[.bool true,.int .i64 ty]) (by simp[results,Tryz.results173,go_sem,v0,v1]) rfl ⟨by rw[HMV.out],e5⟩
   ·have hd:decide (nm=s)=false:=by simpa using he
    have HZ2:Hid (∃k':Nat,k'≤n∧(k:Int) - 1=(k':Int) - 1∧∀j (hj:j<vs.length),k'≤j→vs[j].1≠s):=⟨k,by omega,rfl,fun j hj hij=>by
     rcases Nat.lt_or_ge k j with h | h
     ·exact hno j hj h
     ·obtain rfl:j=k:=by omega
      rw[←hnm];exact he⟩
    clear hno hz' HZ hk hl hnm hty he
    subst hvo
    go_wp2
    go_roundw
    case rel=>exact⟨(k:Int) - 1,by go_num,HZ2,trivial⟩
    case measure=>first |(simp[intOf];omega)| simp[intOf]
section
open Go.RowKit Go.Maps
theorem tellC (p:Int)(w:World):Calls Tryz.prog 84 #[.int .i64 0,.int .i64 p] w fun r w'=>r=.returned (.tuple #[])∧w'=w:=by
 go_enter Tryz.func84,Tryz.ntmps84
 go_wp2
 go_end0
 exact⟨rfl,rfl⟩
theorem tellIfC (c p:Int)(w:World):Calls Tryz.prog 90 #[.bool false,.int .i64 c,.int .i64 p] w fun r w'=>r=.returned (.tuple #[])∧w'=w:=by
 go_enter Tryz.func90,Tryz.ntmps90
 go_wp2
 go_end0
 exact⟨rfl,rfl⟩
theorem fnFields:(Tryz.prog.fieldsOf 240).toList.map (fun f=>(f.name,f.type,f.offset))=[("there",4,0),("kind",3,1)]:=by kernel_rfl
theorem fnStruct:Tryz.prog.underlying 240=some (.struct (Tryz.prog.fieldsOf 240)):=by kernel_rfl
theorem fnHeld:Tryz.prog.stoodInHeld 240=false:=by kernel_rfl
theorem fpart0 (x y:Value)(w:World):(part 4 #[x,y] 0).run Tryz.prog w=.ok x w:=by kernel_rfl
theorem fpart1 (x y:Value)(w:World):(part 3 #[x,y] 1).run Tryz.prog w=.ok y w:=by kernel_rfl
theorem fguard (x y:Operand)(a b:Array Value)(w:World):(eqGuard .neq 240 x y (.agg a) (.agg b)).run Tryz.prog w=.ok () w:=by
 have:Tryz.prog.eqGuardType Tryz.prog.depth 240=false:=by kernel_rfl
 simp[eqGuard,this,go_sem]
theorem neqF (b b':Bool)(n n':Int)(w:World):(binOp .neq 240 (.agg #[.bool b,.int .i64 n]) (.agg #[.bool b',.int .i64 n'])).run Tryz.prog w=.ok (.bool (!(decide (b=b') && decide (n=n')))) w:=by
 have hf:=fnFields
 rw[run_neq_struct]
 show((Op.equalIn (9999+1) _ _ _).run _ _).andThen _=_
 rw[run_equalIn_struct w 9999 _ _ _ fnStruct fnHeld]
 match hm:(Tryz.prog.fieldsOf 240).toList with
 |[]=>rw[hm] at hf;simp at hf
 |[_]=>rw[hm] at hf;simp at hf
 | f0::f1::f2::_=>rw[hm] at hf;simp at hf
 |[f0,f1]=>
  rw[hm] at hf
  simp only[List.map_cons,List.map_nil,List.cons.injEq,Prod.mk.injEq,and_true] at hf
  obtain⟨⟨n0,t0,o0⟩,n1,t1,o1⟩:=hf
  have i1:=run_equalIn_bool' (P:=Tryz.prog) w 9998 4 b b' Tryz.underlying4
  have i2:=run_equalIn_int (P:=Tryz.prog) w 9998 3 .i64 .i64 (n:Int) (n':Int) Tryz.underlying3
  simp only[Op.eqFields,n0,n1,t0,t1,o0,o1,ne_eq,String.reduceEq,not_false_eq_true,if_true,Sem.run_bind,fpart0,fpart1,Result.andThen_ok,i1,i2,Sem.run_ite,Sem.run_pure]
  by_cases h1:b=b'
  ·by_cases h2:n=n'
   ·simp[h1,h2]
   ·simp[h1,h2]
  ·simp[h1]
theorem ranges_cnt {w:World}{B r N cnt:Nat}{D:DataW Value}{left:Lit→Bool}(h:w.ranges Tryz.prog 9 askE B r N D left cnt):cnt≤N:=by
 obtain⟨es,clock,since,seen,c0,_,_,h3,_,_,_,h7,_⟩:=h
 rw[←h7]
 refine Nat.le_trans ?_ h3
 unfold Go.leftOf
 exact Array.size_filter_le
theorem ranges_keeps {w w':World}{B r N cnt:Nat}{D:DataW Value}{left:Lit→Bool}(h:w.ranges Tryz.prog 9 askE B r N D left cnt)(h1:w'.heap[B]? =w.heap[B]?)(h2:w'.heap[r]? =w.heap[r]?):w'.ranges Tryz.prog 9 askE B r N D left cnt:=by
 obtain⟨es,clock,since,seen,c0,k1,k2,k3,k4,k5,k6⟩:=h
 exact⟨es,clock,since,seen,c0,h1.trans k1,k2,k3,k4,h2.trans k5,k6⟩
theorem findsK {w0 w:World}{L kb pb:Nat}{X:Nat→Prop}{P:Prg}{vs vk:Sk.Vs}{f:Nat}{u:Bool}{N M B:Nat}(h:Lk w0 w L kb pb X P vs vk f u N)(hm:MapA w B M)(hB:¬X B)(hN:N+M<1000000000):
 Calls Tryz.prog 174 #[.pointer (some ⟨kb,0,none⟩),.map (some B)] w fun r w'=>∃b,r=.returned (.bool b)∧Lk w0 w' L kb pb X P vs vk f u (N+M)∧Kx X w w':=by
 obtain⟨D,hown⟩:=hm
 have HH:=hidq h
 have HNB:=hidq hB
 clear h hB
 go_enter Tryz.func174,Tryz.ntmps174
 go_wp2_with (first
  |(at_range;refine wpList_range_own _ rfl _ 162 rfl 9 240 lawK Tryz.underlying162 askE B M D rfl hown ?_;intro w1 hrg1 hg1 hs1)
  | go_in)
 go_frame
 have HI0:Hid (∃left cnt N',w1.ranges Tryz.prog 9 askE B w.heap.size M D left cnt∧Lk w0 w1 L kb pb X P vs vk f u N'∧Kx X w w1∧N'+cnt≤N+M):=by
  have hb1:Below w.heap.size w w1:=⟨hg1.os,hg1.tape,hg1.output,hg1.size,fun b hb=>hg1.block b hb (by simp)⟩
  have h2:=HH.out.later hb1
  exact⟨_,_,N,hrg1,h2.1,h2.2,by have:=ranges_cnt hrg1;omega⟩
 clear hrg1 hg1 hs1 hown
 go_loopw [5] (fun _ wr=>Hid (∃left cnt N',wr.ranges Tryz.prog 9 askE B w.heap.size M D left cnt∧Lk w0 wr L kb pb X P vs vk f u N'∧Kx X w wr∧N'+cnt≤N+M)) (fun _ wr=>wr.rangeLeft B w.heap.size)
 case atStart=>exact HI0
 case round=>
  clear HI0
  obtain⟨left,cnt,N',hrg,hlk,hkx,hle⟩:=hrel.out
  have HLK:=hidq hlk
  have HKX:=hidq hkx
  clear hlk hkx
  go_wp2_with (first
   |(at_next;refine wpList_next_ranges _ rfl _ rfl 9 lawK askE Value.string (fun c:AkV=>.agg #[.bool c.b,.int .i64 c.n]) (fun key kl hk=>by obtain⟨s,e,_⟩:=keyS_inv hk;exact⟨s,e⟩) (fun v y hv=>askE_inv hv) B w.heap.size M _ _ _ rfl hrg ?_ ?_)
   | go_in)
  ·intro _ _
   go_wp2
   go_ret
   exact⟨_,rfl,HLK.out.more (by omega),HKX.out⟩
  ·intro s c kl y1 y2 w1 cnt1 hkey _ _ _ hrg1 hlt hg1 hs1 hen
   obtain⟨s',es,hss⟩:=keyS_inv hkey
   cases es
   obtain⟨cb,cn⟩:=c
   have hb1:Below w.heap.size wr w1:=⟨hg1.os,hg1.tape,hg1.output,hg1.size,fun b hb=>hg1.block b (by have:=HKX.out.size;omega) (fun e=>by injection e;omega)⟩
   have hnw:¬X w.heap.size:=fun hx=>by obtain⟨_,_,_,_,_,_,h⟩:=HH.out;have:=(h.up _ hx).2;omega
   have hL:L≤w.heap.size:=by obtain⟨_,_,_,_,_,_,h⟩:=HH.out;have:=h.up kb h.xk.1;omega
   have hk1:∀b,b<wr.heap.size→b≠w.heap.size→w1.heap[b]? =wr.heap[b]? :=fun b hb e=>hg1.block b hb (fun e'=>e (by injection e'))
   have H1:Hid (Lk w0 w1 L kb pb X P vs vk f u N'∧Kx X w w1):=by
    obtain⟨vo,vc,mk,ma,mr,K,h⟩:=HLK.out
    exact⟨⟨vo,vc,mk,ma,mr,K,h.keep (h.bel.trans (hb1.mono hL)) hb1.size fun b hx=>hk1 b (h.up b hx).2 fun e=>hnw (e▸hx)⟩,⟨Nat.le_trans HKX.out.size hb1.size,fun b hx hl=>(hb1.block b hl).trans (HKX.out.block b hx hl)⟩⟩
   obtain⟨w2,hw2⟩:∃w2,w2=w1.alloc (.cells #[.bool cb,.int .i64 cn] 240):=⟨_,rfl⟩
   have hlk2:=H1.out.1.later (al1 hw2)
   have HFD:Hid (∀W,Below w2.heap.size w2 W→Calls Tryz.prog 173 #[.pointer (some ⟨kb,0,none⟩),.string s] W fun r w'=>r=.returned (fndV (Sk.lastV vs s))∧Hid (Lk w0 w' L kb pb X P vs vk f u (N'+1)∧Kx X w2 w')):=fun W hW=>by
    have h3:=hlk2.1.later hW
    refine(findK h3.1 hss (by omega)).mono ?_
    rintro r w' ⟨rfl,h4,h5⟩
    exact⟨rfl,h4,h3.2.trans h5⟩
   have HT2:Hid (w2.heap[w1.heap.size]? =some (.cells #[.bool cb,.int .i64 cn] 240 (0,0))):=aa hw2
   have t0:w2.cell? ⟨w1.heap.size,0,none⟩=some (.bool cb):=cl HT2.out 0 rfl
   have t1:w2.cell? ⟨w1.heap.size,1,none⟩=some (.int .i64 cn):=cl HT2.out 1 rfl
   have tl:=lt_of_block HT2.out
   have hr12:w2.ranges Tryz.prog 9 askE B w.heap.size M D (fun z=>left z && !z.sameKey kl) cnt1:=by rw[hw2];exact hrg1.alloc _
   have HB2:Hid (Kx X w w2):=H1.out.2.trans (hlk2.2.trans (Kx.refl _ _))
   have HSZ:Hid (w.heap.size<w2.heap.size∧¬X w1.heap.size):=⟨hr12.lt,fun hx=>by obtain⟨_,_,_,_,_,_,h⟩:=H1.out.1;have:=(h.up _ hx).2;omega⟩
   have HR2:=hidq hr12
   have HNW:=hidq hnw
   have hne:=neqF
   have hgd:=fguard
   clear hb1 hL hk1 hlk2 hr12 hnw hrg1 hg1 hs1 hkey hss
   go_upto_region 4 with fail
   rw[←hw2]
   clear hw2
   obtain⟨o,ho⟩:∃o,o=Sk.lastV vs s:=⟨_,rfl⟩
   rw[←ho] at HFD
   obtain⟨ob,hob⟩:∃b,b=o.isSome:=⟨_,rfl⟩
   obtain⟨on,hon⟩:∃n,n=o.getD 0:=⟨_,rfl⟩
   have HFE:Hid (∀W,Below w2.heap.size w2 W→Calls Tryz.prog 173 #[.pointer (some ⟨kb,0,none⟩),.string s] W fun r w'=>r=.returned (.agg #[.bool ob,.int .i64 on])∧Hid (Lk w0 w' L kb pb X P vs vk f u (N'+1)∧Kx X w2 w')):=fun W hW=>by
    rw[hob,hon];exact HFD.out W hW
   clear HFD hob hon ho
   go_region_held3 (fun W=>W.cell? ⟨w1.heap.size,0,none⟩=some (.bool cb)∧W.cell? ⟨w1.heap.size,1,none⟩=some (.int .i64 cn)) (go_keep)
    (first
      |(go_at_call 173;refine(HFE.out _ (by exact⟨rfl,rfl,rfl,Nat.le_refl _,fun _ _=>rfl⟩)).mono ?_;rintro x w3 ⟨rfl,H3⟩;obtain⟨d0,d1⟩:w3.cell? ⟨w1.heap.size,0,none⟩=some (.bool cb)∧w3.cell? ⟨w1.heap.size,1,none⟩=some (.int .i64 cn):=(by have h:=(H3.out.2.block w1.heap.size HSZ.out.2 tl).trans HT2.out;exact⟨cl h 0 rfl,cl h 1 rfl⟩)))
   have HN3:Hid (∃left cnt N',w3.ranges Tryz.prog 9 askE B w.heap.size M D left cnt∧Lk w0 w3 L kb pb X P vs vk f u N'∧Kx X w w3∧N'+cnt≤N+M):=by
    have hBw:¬X B∧B<w2.heap.size:=⟨HNB.out,by have:=HR2.out.owns.lt;exact this⟩
    exact⟨_,cnt1,N'+1,ranges_keeps HR2.out (H3.out.2.block B hBw.1 hBw.2) (H3.out.2.block w.heap.size HNW.out HSZ.out.1),H3.out.1,HB2.out.trans H3.out.2,by omega⟩
   have HM3:Hid (w3.rangeLeft B w.heap.size<wr.rangeLeft B w.heap.size):=by
    have h3:=ranges_keeps HR2.out (H3.out.2.block B HNB.out HR2.out.owns.lt) (H3.out.2.block w.heap.size HNW.out HSZ.out.1)
    show _<_
    rw[h3.left_eq,hrg.left_eq]
    exact hlt
   clear hrg hne hgd t0 t1 d0 d1
   go_wp2
   ·go_ret
    exact⟨_,rfl,H3.out.1.more (by omega),HB2.out.trans H3.out.2⟩
   ·exact⟨HN3,HM3⟩
theorem variableK {w0 w:World}{L kb pb:Nat}{X:Nat→Prop}{P:Prg}{vs vk:Sk.Vs}{f:Nat}{u:Bool}{N:Nat}(h:Lk w0 w L kb pb X P vs vk f u N){s:ByteArray}(hs:s.size≤maxLen)(hN:N<1000000000){t:Int}(ht:Sk.lastV vs s=some t)(p:Int):
 Calls Tryz.prog 158 #[.pointer (some ⟨kb,0,none⟩),.string s,.int .i64 p] w fun r w'=>r=.returned (.int .i64 t)∧Lk w0 w' L kb pb X P vs vk f u (N+1)∧Kx X w w':=by
 have hf:=findK h hs hN
 rw[ht] at hf
 have hti:=fun p w=>tellIfC 5 p w
 go_enter Tryz.func158,Tryz.ntmps158
 go_wp2_with fail
 refine hf.mono ?_
 rintro x w1 ⟨rfl,h1,h2⟩
 have HLK:Hid (∀W,Below w1.heap.size w1 W→Lk w0 W L kb pb X P vs vk f u (N+1)∧Kx X w W):=fun W hW=>⟨(h1.later hW).1,h2.trans (h1.later hW).2⟩
 clear hf h1 h2
 obtain⟨w2,hw2⟩:∃w2,w2=w1.alloc (.cells #[.bool true,.int .i64 t] 240):=⟨_,rfl⟩
 have h0:=cl (aa hw2) 0 rfl
 have h1:=cl (aa hw2) 1 rfl
 have hl:=lt_of_block (aa hw2)
 have HF:=hidq (HLK.out w2 (al1 hw2))
 go_upto_region 2 with fail
 rw[←hw2]
 clear hw2
 go_wp2_with fail
 refine(hti p w2).mono ?_
 rintro x w3 ⟨rfl,rfl⟩
 go_wp2
 go_ret
 exact⟨rfl,HF.out⟩
end
end Go.Proofs.YtepkhlpjgnckkaaGreatDoor
