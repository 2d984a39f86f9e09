/- Contract of scan.Scan. And more of the same. -/
import Derived.Test.YtepkhlpjgnckkaaGreatDoorZC8
import Derived.Test.YtepkhlpjgnckkaaGreatDoorZShelfA
import Derived.Test.YtepkhlpjgnckkaaGreatDoorZB8
namespace Go.Proofs.YtepkhlpjgnckkaaGreatDoor
set_option maxRecDepth 100000
set_option maxHeartbeats 8000000
open Go.RowKit
theorem Tryz.infoTok:(Tryz.prog.info? 106).map (fun i=>(i.zero,i.size,i.bytes))=some (some (.agg #[.int .i64 0,.int .i64 0,.string ⟨#[]⟩]),3,32):=by kernel_rfl
theorem reader_any (s:ByteArray)(w:World):
 Calls Tryz.prog 57 #[.string s] w fun e w'=>e=.returned (.func (.func 97) #[] #[.pointer (some ⟨w.heap.size+1,0,none⟩),.pointer (some ⟨w.heap.size,0,none⟩)])∧w'=(w.alloc (.cells #[.string s] 9)).alloc (.cells #[.int .i64 0] 3):=by
 go_enter Tryz.func57,Tryz.ntmps57
 go_wp2
 go_ret
 exact⟨rfl,rfl⟩
structure Loop (s:ByteArray)(w wr:World)(v:Value)(p f:Nat)(acc:List Lex.Tok):Prop where
 own:wr.ownsRow (w.heap.size+3) 106 3 v acc.length (Lex.cellsOf acc)
 res:wr.heap[w.heap.size]? =some (.cells #[.int .i64 0,.int .i64 0] 45 (0,0))
 str:wr.heap[w.heap.size+1]? =some (.cells #[.string s] 9 (0,0))
 plc:wr.heap[w.heap.size+2]? =some (.cells #[.int .i64 (p:Int)] 3 (0,0))
 bel:Below w.heap.size w wr
 big:w.heap.size+3≤wr.heap.size
 len:acc.length≤600
 plt:p≤s.size
 all:Lex.scanAll s.data.toList=Lex.scanF s.data.toList f p acc
 fuel:s.size<p+f
theorem loop_start (s:ByteArray)(w:World)(H:Lex.scanAll s.data.toList=Lex.scanF s.data.toList (s.size+1) 0 []):
 Loop s w (((w.alloc (.cells #[.int .i64 0,.int .i64 0] 45)).alloc (.cells #[.string s] 9)).alloc (.cells #[.int .i64 0] 3)) (.slice none 0 0) 0 (s.size+1) []:=
 ⟨World.ownsRow_nil _ _ _ _,heap_past_alloc (heap_past_alloc (heap_at_alloc _ _ _ rfl)),heap_past_alloc (heap_at_alloc _ _ _ (by simp)),heap_at_alloc _ _ _ (by simp),(((Below.refl _ _).alloc (Nat.le_refl _) _).alloc (by simp) _).alloc (by simp;omega) _,by simp,by simp,by simp,H,by omega⟩
theorem slice_of {w:World}{base e size n:Nat}{v:Value}{xs:List Value}(h:w.ownsRow base e size v n xs):∃ao cap,v=.slice ao n cap:=by
 rcases h.2 with⟨rfl,rfl⟩|⟨g,cap,cur,rfl,_⟩
 ·exact⟨none,0,rfl⟩
 ·exact⟨_,cap,rfl⟩
theorem ownsRow_le' {w:World}{B base e size n:Nat}{v:Value}{xs:List Value}(h:w.ownsRow base e size v n xs)(hB:B≤base):w.ownsRow B e size v n xs:=by
 obtain⟨h1,h2⟩:=h
 rcases h2 with h2 |⟨g,cap,cur,hv,hg,r⟩
 ·exact⟨h1,.inl h2⟩
 ·exact⟨h1,.inr ⟨g,cap,cur,hv,by omega,r⟩⟩
theorem own_next {s:ByteArray}{w wr w1:World}{v:Value}{p f:Nat}{acc:List Lex.Tok}(h:Loop s w wr v p f acc)(hg:wr.grownBy w1 (some (w.heap.size+2))):w1.ownsRow (w.heap.size+3) 106 3 v acc.length (Lex.cellsOf acc):=by
 refine h.own.kept hg ?_
 right
 intro he
 have:=(h.own.lt _ he).1
 omega
theorem bel_next {s:ByteArray}{w wr w1:World}{v:Value}{p f:Nat}{acc:List Lex.Tok}(h:Loop s w wr v p f acc)(hg:wr.grownBy w1 (some (w.heap.size+2))):Below w.heap.size w w1:=
 h.bel.grown hg (by have:=h.big;omega) (by intro k hk;simp at hk;omega)
theorem three_new (w:World)(o:Obj)(a b c:Value)(e:TypeId):∀j u,[a,b,c][j]? =some u→((w.alloc o).alloc (.cells #[a,b,c] e)).cell? ((⟨w.heap.size+1,0,none⟩:Addr).add j)=some u:=by
 intro j u hj
 have e0:((w.alloc o).alloc (.cells #[a,b,c] e)).cell? ⟨w.heap.size+1,j,none⟩=(#[a,b,c]:Array Value)[j]? :=World.cell?_alloc_at _ _ _ _ (by simp)
 have e1:(⟨w.heap.size+1,0,none⟩:Addr).add j=⟨w.heap.size+1,j,none⟩:=by simp[Addr.add];intro h;exact h.symm
 rw[e1,e0];simpa using hj
theorem loop_next {s t:ByteArray}{w wr w1 w2:World}{v v':Value}{o1 o2:Obj}{p f n q:Nat}{k:Int}{acc:List Lex.Tok}(h:Loop s w wr v p (f+1) acc)(hg:wr.grownBy w1 (some (w.heap.size+2)))
 (hpl:w1.heap[w.heap.size+2]? =some (.cells #[.int .i64 (n:Int)] 3 (0,0))) (hn:n≤s.size) (hk:k≠0) (hpn:p<n) (hst:Lex.stepF s.data.toList p=(k,q,t.data.toList,0,n)) (hf:¬acc.length=600)
 (hown:w2.ownsRow (w.heap.size+3) 106 3 v' (acc.length+1) (Lex.cellsOf acc++[.int .i64 k,.int .i64 (q:Int),.string t])) (hgr:((w1.alloc o1).alloc o2).grownBy w2 v.ownBlock):
 Loop s w w2 v' n f (acc++[(k,q,t.data.toList)]):=by
 have hb:=h.big
 have hz:((w1.alloc o1).alloc o2).heap.size=w1.heap.size+2:=by simp
 have h1:=hg.size
 have h2:=hgr.size
 have low:∀b x,b<w.heap.size+3→w1.heap[b]? =some x→w2.heap[b]? =some x:=fun b x hlt hx=>by
  rw[hgr.block b (by omega) ?_]
  ·exact heap_past_alloc (heap_past_alloc hx)
  ·intro he
   have:=(h.own.lt _ he.symm).1
   omega
 have old:∀b x,b<w.heap.size+2→wr.heap[b]? =some x→w2.heap[b]? =some x:=fun b x hlt hx=>low b x (by omega) ((hg.block b (lt_of_block hx) (by simp;omega)).trans hx)
 refine⟨?_,old _ _ (by omega) h.res,old _ _ (by omega) h.str,low _ _ (by omega) hpl,?_,by omega,by have:=h.len;simp;omega,hn,h.all.trans (Lex.scan_on hst hk hf),by have:=h.fuel;omega⟩
 ·rw[Lex.cellsOf_snoc]
  simpa using hown
 ·exact(((bel_next h hg).alloc (by omega) _).alloc (by simp;omega) _).grown hgr (by omega) (fun k he=>by have:=(h.own.lt _ he).1;omega)
theorem scan_any (s:ByteArray)(w:World)(hsz:s.size≤maxLen):
 Calls Tryz.prog 34 #[.string s] w fun e w'=>∃(v:Value) (l:List Lex.Tok) (c:Int) (q:Nat),e=.returned (.tuple #[v,.agg #[.int .i64 c,.int .i64 (q:Int)]])∧Lex.scanAll s.data.toList=(l,c,q)∧w'.ownsRow w.heap.size 106 3 v l.length (Lex.cellsOf l)∧Below w.heap.size w w':=by
 unfold maxLen at hsz
 by_cases hbig:4000<s.size
 ·have H:Hid (Lex.scanAll s.data.toList=([],2,0)):=Lex.scan_many (by rw[Lex.len_of];exact hbig)
  go_enter Tryz.func34,Tryz.ntmps34
  go_wp2
  exact bodyPost_ret (v:=.tuple #[.slice none 0 0,.agg #[.int .i64 2,.int .i64 0]]) (by simp[results,Tryz.results34,go_sem]) rfl ⟨_,[],2,0,rfl,H.out,World.ownsRow_nil _ _ _ _,(Below.refl _ _).alloc (Nat.le_refl _) _⟩
 ·have HB:Hid (Lex.scanAll s.data.toList=Lex.scanF s.data.toList (s.size+1) 0 []):=by
   have:=Lex.scan_begin (l:=s.data.toList) (by rw[Lex.len_of];exact hbig)
   rwa [Lex.len_of] at this
  have hs:s.size≤4000:=by omega
  go_enter Tryz.func34,Tryz.ntmps34
  go_wp2_with (go_at_call 57;refine(reader_any _ _).mono ?_;rintro e w' ⟨rfl,rfl⟩)
  go_loopw [4] (fun v wr=>∃p f acc,Loop s w wr v p f acc) (fun _ wr=>s.size - Lex.placeOf wr (w.heap.size+2))
  case atStart=>exact⟨0,s.size+1,[],loop_start s w HB.out⟩
  case round=>
   obtain⟨p,f0,acc,HL0⟩:=hrel
   obtain⟨f,rfl⟩:∃f,f0=f+1:=⟨f0 - 1,by have:=HL0.fuel;have:=HL0.plt;omega⟩
   obtain⟨i0,hi,hz0,hz1,hz2⟩:=info_parts Tryz.infoTok
   have HL:Hid (Loop s w wr u4 p (f+1) acc):=HL0
   obtain⟨ao,cap,hv⟩:=slice_of HL0.own
   subst hv
   clear HL0 HB
   go_wp2_with fail
   refine(next_any s p (w.heap.size+1+1) (w.heap.size+1) wr hs HL.out.plt HL.out.plc HL.out.str).mono ?_
   rintro e w1 ⟨k,q,t,c,n,rfl,HST,hgr,hpl,hq,hn,hprog⟩
   have hR:w1.heap[w.heap.size]? =some (.cells #[.int .i64 0,.int .i64 0] 45 (0,0)):=(hgr.block _ (lt_of_block HL.out.res) (by simp;omega)).trans HL.out.res
   have lR:=lt_of_block hR
   have r0:w1.cell? ⟨w.heap.size,0,none⟩=some (.int .i64 0):=by simp[World.cell?,hR]
   have r1:w1.cell? ⟨w.heap.size,1,none⟩=some (.int .i64 0):=by simp[World.cell?,hR]
   have z0:w1.frozen? ⟨w.heap.size,0,none⟩=false:=by simp[World.frozen?,hR]
   have z1:w1.frozen? ⟨w.heap.size,1,none⟩=false:=by simp[World.frozen?,hR]
   have HGR:Hid (wr.grownBy w1 (some (w.heap.size+2))):=hgr
   have HPL:Hid (w1.heap[w.heap.size+2]? =some (.cells #[.int .i64 (n:Int)] 3 (0,0))):=hpl
   have HRR:Hid (w1.heap[w.heap.size]? =some (.cells #[.int .i64 0,.int .i64 0] 45 (0,0))):=hR
   have HPG:Hid (k≠0→p<n):=hprog
   clear hgr hpl hR hprog
   by_cases hc:c=0
   ·subst hc
    by_cases hk:k=0
    ·subst hk
     have hO:=own_next HL.out HGR.out
     have hB:=bel_next HL.out HGR.out
     have HO:Hid (w1.ownsRow (w.heap.size+3) 106 3 (.slice ao acc.length cap) acc.length (Lex.cellsOf acc)):=hO
     have HB:Hid (Below w.heap.size w w1):=hB
     clear hO hB
     go_wp2
     exact bodyPost_ret (v:=.tuple #[.slice ao acc.length cap,.agg #[.int .i64 0,.int .i64 0]]) (by simp[results,Tryz.results34,go_sem,r0,r1,lR]) rfl ⟨_,acc,0,0,rfl,HL.out.all.trans (Lex.scan_end HST.out),ownsRow_le' (World.ownsRow.alloc (ownsRow_setCell_below (ownsRow_setCell_below HO.out (by show w.heap.size<_;omega) _) (by show w.heap.size<_;omega) _) _) (by omega),((HB.out.setCell (Nat.le_refl _) _).setCell (Nat.le_refl _) _).alloc (by simp[World.setCell];omega) _⟩
    ·have bk:(k==0)=false:=by simp[hk]
     have HK:Hid (k≠0):=hk
     clear hk
     by_cases hf:acc.length=600
     ·have bf:((acc.length:Int)==600)=true:=by simp[hf]
      have HF:Hid (acc.length=600):=hf
      clear hf
      have HB:Hid (Below w.heap.size w w1):=bel_next HL.out HGR.out
      go_wp2
      go_region
      all_goals (try go_wp2)
      all_goals exact bodyPost_ret (v:=.tuple #[.slice none 0 0,.agg #[.int .i64 2,.int .i64 (q:Int)]]) (by simp[results,Tryz.results34,go_sem,r0,r1,lR]) rfl ⟨_,[],2,q,rfl,HL.out.all.trans (Lex.scan_full HST.out HK.out HF.out),World.ownsRow_nil _ _ _ _,(((HB.out.setCell (Nat.le_refl _) _).setCell (Nat.le_refl _) _).alloc (by simp[World.setCell];omega) _).drew⟩
     ·have bf:((acc.length:Int)==600)=false:=by simp;omega
      have HO:Hid (w1.ownsRow (w.heap.size+3) 106 3 (.slice ao acc.length cap) acc.length (Lex.cellsOf acc)):=own_next HL.out HGR.out
      have hlen:=HL.out.len
      have hsz1:w.heap.size+3≤w1.heap.size:=Nat.le_trans HL.out.big HGR.out.size
      have HF:Hid (¬acc.length=600):=hf
      clear hf
      go_wp2_with (at_builtin;refine wpList_append_own _ rfl _ _ 97 rfl (w.heap.size+3) 106 i0 (.agg #[.int .i64 0,.int .i64 0,.string ⟨#[]⟩]) 3 32 Tryz.underlying97 hi hz0 hz1 hz2 rfl (by decide) _ _ _ rfl (World.ownsRow.alloc (World.ownsRow.alloc HO.out _) _) ⟨w1.heap.size+1,0,none⟩ 1 1 [.int .i64 k,.int .i64 (q:Int),.string t] rfl rfl ?c1 ?c2 ?c3 ?c4 ?c5 ?_)
      case c1=>exact three_new _ _ _ _ _ _
      case c2=>intro u hu;simp at hu;rcases hu with rfl | rfl | rfl<;>rfl
      case c3=>unfold maxLen;omega
      case c4=>omega
      case c5=>simp;omega
      ·intro v' w2 hown2 hgrow2 _
       have HN:Hid (Loop s w w2 v' n f (acc++[(k,q,t.data.toList)])):=loop_next HL.out HGR.out HPL.out hn HK.out (HPG.out HK.out) HST.out HF.out hown2 hgrow2
       have HM:Hid (s.size - Lex.placeOf w2 (w.heap.size+2)<s.size - Lex.placeOf wr (w.heap.size+2)):=by
        have:=HPG.out HK.out;have:=HL.out.plt
        show _<_;rw[Lex.placeOf_of HN.out.plc,Lex.placeOf_of HL.out.plc];omega
       clear hown2 hgrow2
       go_wp2
       go_roundw
       case rel=>exact⟨n,f,_,HN.out⟩
       case measure=>exact HM.out
   ·have bc:(c==0)=false:=by simp[hc]
    have bn:(c !=0)=true:=by simp[hc]
    have HC:Hid (c≠0):=hc
    clear hc
    have HB:Hid (Below w.heap.size w w1):=bel_next HL.out HGR.out
    go_wp2
    go_region
    all_goals (try go_wp2)
    all_goals exact bodyPost_ret (v:=.tuple #[.slice none 0 0,.agg #[.int .i64 c,.int .i64 (q:Int)]]) (by simp[results,Tryz.results34,go_sem,r0,r1,lR]) rfl ⟨_,[],c,q,rfl,HL.out.all.trans (Lex.scan_bad HST.out HC.out),World.ownsRow_nil _ _ _ _,(((HB.out.setCell (Nat.le_refl _) _).setCell (Nat.le_refl _) _).alloc (by simp[World.setCell];omega) _).drew⟩
open Par (Tok Po Tr nx atP isT ba Res)
theorem cells_flat (l:List Tok):Lex.cellsOf l=(l.map tokC).flatten:=by
 unfold Lex.cellsOf tokC ba
 rw[List.flatMap_def]
theorem good_of {l:List UInt8}{t:Tok}(h:Lex.From l t)(hl:l.length≤4000):Good t:=by
 obtain⟨h1,h2,h3,h4⟩:=h
 refine⟨by omega,by omega,fun hk=> ?_⟩
 rw[hk] at h3
 obtain⟨n1,m,n2,n3⟩:=Par.num_tok h3
 refine⟨by omega,?_⟩
 simp[Par.numV,n2]
theorem rd_new {w:World}{B:Nat}(hlv:LevAt w w.heap.size){l:List UInt8}{ts:List Tok}{q:Nat}{v:Value}(hown:w.ownsRow B 106 3 v ts.length (Lex.cellsOf ts))(hs:Lex.scanAll l=(ts,0,q)):
 Rd (w.alloc (.cells #[v,.int .i64 (l.length:Int),.int .i64 0,.int .i64 0] 103)) w.heap.size l.length 0 0 ts v:=by
 obtain⟨h1,h2,h3⟩:=Lex.all_from hs
 rw[cells_flat] at hown
 have hr:RowV w (fun b=>b<w.heap.size) 3 v (ts.map tokC):=(RowV.of_own (S:=fun _=>True) hown (by simp) (fun i hi=>by simp[tokC]) (fun _ _=>trivial)).mono fun b _ h=>h
 exact⟨heap_at_alloc _ _ _ rfl,hr.keeps ⟨by simp,fun b hb _=>Below.heap_alloc _ _ b hb⟩,h2,fun t ht=>good_of (h1 t ht) h3,hlv.keeps (by simp) fun b hb=>Below.heap_alloc _ _ b hb⟩
open Par (Stm Prm Chn Prc Prg Tok Po Tr nx atP isT ba Res)
def ZG:Array Value:=#[.slice none 0 0,.slice none 0 0,.slice none 0 0,.slice none 0 0]
theorem blkG {w:World}{b:Nat}{x0 x1 x2 x3:Value}{e:TypeId}(h:w.heap[b]? =some (.cells #[x0,x1,x2,x3] e (0,0))):(w.cell? ⟨b,0,none⟩=some x0∧w.cell? ⟨b,1,none⟩=some x1∧w.cell? ⟨b,2,none⟩=some x2∧w.cell? ⟨b,3,none⟩=some x3)∧w.frozen? ⟨b,0,none⟩=false∧w.frozen? ⟨b,1,none⟩=false∧w.frozen? ⟨b,2,none⟩=false∧w.frozen? ⟨b,3,none⟩=false:=⟨(blk4 h).1,(blk4 h).2 0,(blk4 h).2 1,(blk4 h).2 2,(blk4 h).2 3⟩
def PgmC (rb e:Nat):Prop:=∀(w:World) (ts:List Tok) (v:Value),Rd w rb e 0 0 ts v→Calls Tryz.prog 26 #[.pointer (some ⟨rb,0,none⟩)] w (Post w rb e 0 0 (Par.progR e ts) (VG w.heap.size))
def catchG (fb:Nat):Deferred:={target:=.fn (.func 35) #[.pointer (some ⟨fb,0,none⟩)],args:=#[]}
def GPost (w:World)(res:Res Prg)(x:Ending)(w':World):Prop:=
 Below w.heap.size w w'∧((∃t,res=.ok t []∧∃(j0:Option Addr) (m0 d0:Nat) (j1:Option Addr) (m1 d1:Nat) (j2:Option Addr) (m2 d2:Nat) (j3:Option Addr) (m3 d3:Nat),x=.returned (.tuple #[.agg #[.slice j0 m0 d0,.slice j1 m1 d1,.slice j2 m2 d2,.slice j3 m3 d3],.agg #[.int .i64 0,.int .i64 0]])∧PgIs w' (fun b=>w.heap.size≤b) t [.slice j0 m0 d0,.slice j1 m1 d1,.slice j2 m2 d2,.slice j3 m3 d3])∨
  (∃c q,res=.no c q∧x=.returned (.tuple #[.agg ZG,.agg #[.int .i64 c,.int .i64 ((q:Nat):Int)]])))
theorem gdoor_no {w wz:World}{tm:Array Value}{res:Res Prg}{c y0 y1:Int}{q:Nat}(hb:Below w.heap.size w wz)(hz:wz.heap[w.heap.size]? =some (.cells ZG 27 (0,0)))(hf:wz.heap[w.heap.size+1]? =some (.cells #[.int .i64 y0,.int .i64 y1] 45 (0,0)))
 (h4:tm[4]? =some (.pointer (some ⟨w.heap.size,0,none⟩))) (h5:tm[5]? =some (.pointer (some ⟨w.heap.size+1,0,none⟩))) (hr:res=.no c q):
 Leaves Tryz.prog Tryz.f25 tm (GPost w res) [catchG (w.heap.size+1)] (.panicking [{v:=stopV c q,recovered:=false}]) wz:=by
 refine leaves_cons (f:=35) (args:=#[.pointer (some ⟨w.heap.size+1,0,none⟩)]) (by simp) (by simp[go_sem]) ?_
 refine(catchG_stop (w.heap.size+1) c q wz hf).mono ?_
 rintro x u' w'' ⟨rfl,rfl,hn,hg⟩
 have hz':w''.heap[w.heap.size]? =some (.cells ZG 27 (0,0)):=(hg.block _ (lt_of_block hz) (by simp)).trans hz
 unfold ZG at hz'
 obtain⟨⟨q0,q1,q2,q3⟩,_⟩:=blkG hz'
 have e0:w''.cell? ⟨w.heap.size+1,0,none⟩=some (.int .i64 c):=by simp[World.cell?,hn]
 have e1:w''.cell? ⟨w.heap.size+1,1,none⟩=some (.int .i64 (q:Int)):=by simp[World.cell?,hn]
 refine⟨.tuple #[.agg ZG,.agg #[.int .i64 c,.int .i64 (q:Int)]],by simp[results,Tryz.results25,go_sem,h4,h5,q0,q1,q2,q3,e0,e1,ZG],⟨hg.os.trans hb.os,hg.tape.trans hb.tape,hg.output.trans hb.output,Nat.le_trans hb.size hg.size,fun k hk=>(hg.block k (by have:=hb.size;omega) (by simp;omega)).trans (hb.block k hk)⟩,.inr ⟨c,q,hr,rfl⟩⟩
theorem gdoor_ok {w wz:World}{tm:Array Value}{res:Res Prg}{t:Prg}{j0:Option Addr}{m0 d0:Nat}{j1:Option Addr}{m1 d1:Nat}{j2:Option Addr}{m2 d2:Nat}{j3:Option Addr}{m3 d3:Nat}(hb:Below w.heap.size w wz)(hz:wz.heap[w.heap.size]? =some (.cells #[.slice j0 m0 d0,.slice j1 m1 d1,.slice j2 m2 d2,.slice j3 m3 d3] 27 (0,0)))(hf:wz.heap[w.heap.size+1]? =some (.cells #[.int .i64 0,.int .i64 0] 45 (0,0)))
 (h4:tm[4]? =some (.pointer (some ⟨w.heap.size,0,none⟩))) (h5:tm[5]? =some (.pointer (some ⟨w.heap.size+1,0,none⟩))) (hr:res=.ok t []) (ht:PgIs wz (fun b=>w.heap.size≤b) t [.slice j0 m0 d0,.slice j1 m1 d1,.slice j2 m2 d2,.slice j3 m3 d3]):
 Leaves Tryz.prog Tryz.f25 tm (GPost w res) [catchG (w.heap.size+1)] .returning wz:=by
 refine leaves_cons (f:=35) (args:=#[.pointer (some ⟨w.heap.size+1,0,none⟩)]) (by simp) (by simp[go_sem]) ?_
 refine(catchG_idle ⟨w.heap.size+1,0,none⟩ wz).mono ?_
 rintro x u' w'' ⟨rfl,rfl,hw⟩
 subst hw
 obtain⟨⟨q0,q1,q2,q3⟩,_⟩:=blkG hz
 have e0:w''.cell? ⟨w.heap.size+1,0,none⟩=some (.int .i64 0):=by simp[World.cell?,hf]
 have e1:w''.cell? ⟨w.heap.size+1,1,none⟩=some (.int .i64 0):=by simp[World.cell?,hf]
 exact⟨.tuple #[.agg #[.slice j0 m0 d0,.slice j1 m1 d1,.slice j2 m2 d2,.slice j3 m3 d3],.agg #[.int .i64 0,.int .i64 0]],by simp[results,Tryz.results25,go_sem,h4,h5,q0,q1,q2,q3,e0,e1],hb,.inl ⟨t,hr,_,_,_,_,_,_,_,_,_,_,_,_,rfl,ht⟩⟩
theorem gdoor_scan {w wz:World}{tm:Array Value}{res:Res Prg}{c:Int}{q:Nat}(hb:Below w.heap.size w wz)(hz:wz.heap[w.heap.size]? =some (.cells ZG 27 (0,0)))(hf:wz.heap[w.heap.size+1]? =some (.cells #[.int .i64 c,.int .i64 (q:Int)] 45 (0,0)))
 (h4:tm[4]? =some (.pointer (some ⟨w.heap.size,0,none⟩))) (h5:tm[5]? =some (.pointer (some ⟨w.heap.size+1,0,none⟩))) (hr:res=.no c q):
 Leaves Tryz.prog Tryz.f25 tm (GPost w res) [] .returning wz:=by
 unfold ZG at hz
 obtain⟨⟨q0,q1,q2,q3⟩,_⟩:=blkG hz
 have e0:wz.cell? ⟨w.heap.size+1,0,none⟩=some (.int .i64 c):=by simp[World.cell?,hf]
 have e1:wz.cell? ⟨w.heap.size+1,1,none⟩=some (.int .i64 (q:Int)):=by simp[World.cell?,hf]
 exact⟨.tuple #[.agg ZG,.agg #[.int .i64 c,.int .i64 (q:Int)]],by simp[results,Tryz.results25,go_sem,h4,h5,q0,q1,q2,q3,e0,e1,ZG],hb,.inr ⟨c,q,hr,rfl⟩⟩
theorem gdoor_drew {w wz:World}{tm:Array Value}{res:Res Prg}{c:Int}{q:Nat}(hb:Below w.heap.size w wz)(hz:wz.heap[w.heap.size]? =some (.cells ZG 27 (0,0)))(hf:wz.heap[w.heap.size+1]? =some (.cells #[.int .i64 c,.int .i64 (q:Int)] 45 (0,0)))
 (h4:tm[4]? =some (.pointer (some ⟨w.heap.size,0,none⟩))) (h5:tm[5]? =some (.pointer (some ⟨w.heap.size+1,0,none⟩))) (hr:res=.no c q):
 Leaves Tryz.prog Tryz.f25 tm (GPost w res) [] .returning wz.drew:=gdoor_scan (wz:=wz.drew) hb.drew hz hf h4 h5 hr
theorem gdoor_alloc {w wz:World}{tm:Array Value}{res:Res Prg}{t:Prg}{j0:Option Addr}{m0 d0:Nat}{j1:Option Addr}{m1 d1:Nat}{j2:Option Addr}{m2 d2:Nat}{j3:Option Addr}{m3 d3:Nat}(o:Obj)(hb:Below w.heap.size w wz)(hz:wz.heap[w.heap.size]? =some (.cells #[.slice j0 m0 d0,.slice j1 m1 d1,.slice j2 m2 d2,.slice j3 m3 d3] 27 (0,0)))(hf:wz.heap[w.heap.size+1]? =some (.cells #[.int .i64 0,.int .i64 0] 45 (0,0)))
 (h4:tm[4]? =some (.pointer (some ⟨w.heap.size,0,none⟩))) (h5:tm[5]? =some (.pointer (some ⟨w.heap.size+1,0,none⟩))) (hr:res=.ok t []) (ht:PgIs wz (fun b=>w.heap.size≤b) t [.slice j0 m0 d0,.slice j1 m1 d1,.slice j2 m2 d2,.slice j3 m3 d3]):
 Leaves Tryz.prog Tryz.f25 tm (GPost w res) [catchG (w.heap.size+1)] .returning (wz.alloc o):=
 gdoor_ok (wz:=wz.alloc o) (hb.alloc hb.size _) (heap_past_alloc hz) (heap_past_alloc hf) h4 h5 hr (ht.keeps (Keeps.of_below ((Below.refl _ _).alloc (Nat.le_refl _) _)))
theorem fin6g {w wz:World}{n:Nat}{y0 y1:Int}{x0 x1 x2 x3:Value}{e e':TypeId}(hz:wz.heap[n]? =some (.cells #[x0,x1,x2,x3] e (0,0)))(hf:wz.heap[n+1]? =some (.cells #[.int .i64 y0,.int .i64 y1] e' (0,0))){a0 a1 a2 a3 b0 b1:Value}(hB:Below n w wz):
 Below n w ((((((wz.setCell ⟨n,0,none⟩ a0).setCell ⟨n,1,none⟩ a1).setCell ⟨n,2,none⟩ a2).setCell ⟨n,3,none⟩ a3).setCell ⟨n+1,0,none⟩ b0).setCell ⟨n+1,1,none⟩ b1)∧((((((wz.setCell ⟨n,0,none⟩ a0).setCell ⟨n,1,none⟩ a1).setCell ⟨n,2,none⟩ a2).setCell ⟨n,3,none⟩ a3).setCell ⟨n+1,0,none⟩ b0).setCell ⟨n+1,1,none⟩ b1).heap[n]? =some (.cells #[a0,a1,a2,a3] e (0,0))∧((((((wz.setCell ⟨n,0,none⟩ a0).setCell ⟨n,1,none⟩ a1).setCell ⟨n,2,none⟩ a2).setCell ⟨n,3,none⟩ a3).setCell ⟨n+1,0,none⟩ b0).setCell ⟨n+1,1,none⟩ b1).heap[n+1]? =some (.cells #[b0,b1] e' (0,0))∧∀b,b≠n→b≠n+1→((((((wz.setCell ⟨n,0,none⟩ a0).setCell ⟨n,1,none⟩ a1).setCell ⟨n,2,none⟩ a2).setCell ⟨n,3,none⟩ a3).setCell ⟨n+1,0,none⟩ b0).setCell ⟨n+1,1,none⟩ b1).heap[b]? =wz.heap[b]? :=by
 refine⟨?_,by simp[World.setCell,Array.getElem?_modify,hz],by simp[World.setCell,Array.getElem?_modify,hf],fun b h1 h2=> ?_⟩
 ·iterate 6 refine Below.setCell ?_ (by simp) _
  exact hB
 ·iterate 2 rw[Below.heap_setCell _ _ _ _ h2]
  iterate 4 rw[Below.heap_setCell _ _ _ _ h1]
theorem wholeG (hE:∀rb e,PgmC rb e)(s:ByteArray)(w:World)(hs:s.size≤maxLen)(hl:LevAt w w.heap.size):
 Calls Tryz.prog 25 #[.string s,.func (.func 26) #[] #[]] w (GPost w (Par.readP s.data.toList)):=by
 have hmf:=mkF
 obtain⟨w0,hw0⟩:∃w0,w0=(w.alloc (.cells ZG 27)).alloc (.cells #[.int .i64 0,.int .i64 0] 45):=⟨_,rfl⟩
 have hbel:Below w.heap.size w w0:=by rw[hw0];exact((Below.refl _ _).alloc (Nat.le_refl _) _).alloc (by simp) _
 have hs0:w0.heap.size=w.heap.size+2:=by rw[hw0];simp
 have hres:w0.heap[w.heap.size]? =some (.cells ZG 27 (0,0)):=by rw[hw0];exact heap_past_alloc (heap_at_alloc _ _ _ rfl)
 have hfau:w0.heap[w.heap.size+1]? =some (.cells #[.int .i64 0,.int .i64 0] 45 (0,0)):=by rw[hw0];exact heap_at_alloc _ _ _ (by simp)
 have HSC:=scan_any s w0 hs
 have HE:Hid (∀rb e,PgmC rb e):=hE
 have HL:Hid (LevAt w w.heap.size):=hl
 have HB:Hid (Below w.heap.size w w0):=hbel
 have HR:Hid (w0.heap[w.heap.size]? =some (.cells ZG 27 (0,0))∧w0.heap[w.heap.size+1]? =some (.cells #[.int .i64 0,.int .i64 0] 45 (0,0))):=⟨hres,hfau⟩
 unfold ZG at hw0
 clear hE hl hbel hres hfau
 go_enter_defers Tryz.func25,Tryz.ntmps25
 go_wp2_with fail
 rw[←hw0]
 clear hw0
 refine HSC.mono ?_
 rintro e w1 ⟨v,l,c,q,rfl,hsc,hown,hb1⟩
 obtain⟨ao,cap,rfl⟩:=slice_of hown
 have hz1:=hb1.size
 have hr1:w1.heap[w.heap.size]? =some (.cells ZG 27 (0,0)):=(hb1.block _ (by omega)).trans HR.out.1
 have hf1:w1.heap[w.heap.size+1]? =some (.cells #[.int .i64 0,.int .i64 0] 45 (0,0)):=(hb1.block _ (by omega)).trans HR.out.2
 have HB1:Hid (Below w.heap.size w w1):=HB.out.trans (hb1.mono (by omega))
 have HO:Hid (w1.ownsRow w0.heap.size 106 3 (.slice ao l.length cap) l.length (Lex.cellsOf l)):=hown
 have HS:Hid (Lex.scanAll s.data.toList=(l,c,q)):=hsc
 have HR1:Hid (w1.heap[w.heap.size]? =some (.cells ZG 27 (0,0))∧w1.heap[w.heap.size+1]? =some (.cells #[.int .i64 0,.int .i64 0] 45 (0,0))):=⟨hr1,hf1⟩
 have l1:=lt_of_block hf1
 unfold ZG at hr1
 obtain⟨⟨r0,r1,r2,r3⟩,p0,p1,p2,p3⟩:=blkG hr1
 obtain⟨⟨g0,g1⟩,f0,f1⟩:(w1.cell? ⟨w.heap.size+1,0,none⟩=some (.int .i64 0)∧w1.cell? ⟨w.heap.size+1,1,none⟩=some (.int .i64 0))∧w1.frozen? ⟨w.heap.size+1,0,none⟩=false∧w1.frozen? ⟨w.heap.size+1,1,none⟩=false:=by refine⟨⟨?_,?_⟩,?_,?_⟩<;>simp[World.cell?,World.frozen?,hf1]
 have l2:w.heap.size<w1.heap.size:=by omega
 clear hb1 hown hsc hr1 hf1 HSC HB HR
 by_cases hc:c=0
 ·subst hc
  obtain⟨w1',hw1'⟩:∃w1',w1'=(w1.setCell ⟨w.heap.size+1,0,none⟩ (.int .i64 0)).setCell ⟨w.heap.size+1,1,none⟩ (.int .i64 (q:Int)):=⟨_,rfl⟩
  have hz1':w1'.heap.size=w1.heap.size:=by rw[hw1'];simp[World.setCell]
  have hb1':Below w.heap.size w w1':=by rw[hw1'];exact(HB1.out.setCell (by simp) _).setCell (by simp) _
  have hown':w1'.ownsRow w0.heap.size 106 3 (.slice ao l.length cap) l.length (Lex.cellsOf l):=by rw[hw1'];exact ownsRow_setCell_below (ownsRow_setCell_below HO.out (by show w.heap.size+1<_;omega) _) (by show w.heap.size+1<_;omega) _
  have hlev:LevAt w1' w1'.heap.size:=(HL.out.keeps hb1'.size fun b hb=>hb1'.block b hb).mono (by omega)
  have hrd:=rd_new hlev hown' HS.out
  rw[Lex.len_of] at hrd
  have hzz:w1'.heap[w.heap.size]? =some (.cells ZG 27 (0,0)):=by rw[hw1'];exact heap_past_set (heap_past_set HR1.out.1 (by simp)) (by simp)
  have hff:w1'.heap[w.heap.size+1]? =some (.cells #[.int .i64 0,.int .i64 (q:Int)] 45 (0,0)):=by rw[hw1'];simp[World.setCell,Array.getElem?_modify,HR1.out.2]
  obtain⟨wr,hwr⟩:∃wr,wr=w1'.alloc (.cells #[.slice ao l.length cap,.int .i64 (s.size:Int),.int .i64 0,.int .i64 0] 103):=⟨_,rfl⟩
  rw[←hwr] at hrd
  have HBR:Hid (Below w.heap.size w wr):=by rw[hwr];exact hb1'.alloc (by omega) _
  have HZR:Hid (wr.heap[w.heap.size]? =some (.cells ZG 27 (0,0))∧wr.heap[w.heap.size+1]? =some (.cells #[.int .i64 0,.int .i64 (q:Int)] 45 (0,0))):=by rw[hwr];exact⟨heap_past_alloc hzz,heap_past_alloc hff⟩
  have HRD:Hid (Rd wr w1.heap.size s.size 0 0 l (.slice ao l.length cap)):=by rw[←hz1'];exact hrd
  have HRE:Hid (Par.readP s.data.toList=(Par.progR s.size l).bind fun a r=>Par.restR s.size a r):=by
   have:=Par.whole_read (R:=Par.progR) HS.out
   rw[Lex.len_of] at this
   exact this
  rw[hw1'] at hwr
  clear hz1' hb1' hown' hlev hrd hzz hff hw1' r0 r1 r2 r3 p0 p1 p2 p3
  go_wp2_with fail
  rw[←hwr]
  clear hwr g0 g1 f0 f1
  refine(HE.out _ _ wr _ _ HRD.out).mono ?_
  rintro x w2 ⟨hg2,⟨a,r,hr,u,v',rfl,⟨j0,m0,d0,j1,m1,d1,j2,m2,d2,j3,m3,d3,rfl,hx⟩,h2⟩|⟨cc,qq,hr,rfl,r,v',h2⟩⟩
  ·have hb2:Below w.heap.size w w2:=⟨hg2.os.trans HBR.out.os,hg2.tape.trans HBR.out.tape,hg2.output.trans HBR.out.output,Nat.le_trans HBR.out.size hg2.size,fun k hk=>(hg2.block k (by have:=HBR.out.size;omega) (by simp;omega)).trans (HBR.out.block k hk)⟩
   have hz2:w2.heap[w.heap.size]? =some (.cells ZG 27 (0,0)):=(hg2.block _ (lt_of_block HZR.out.1) (by simp;omega)).trans HZR.out.1
   have hf2:w2.heap[w.heap.size+1]? =some (.cells #[.int .i64 0,.int .i64 (q:Int)] 45 (0,0)):=(hg2.block _ (lt_of_block HZR.out.2) (by simp;omega)).trans HZR.out.2
   have ll:=lt_of_block hf2
   have lz:w.heap.size<w2.heap.size:=by omega
   have lrw:=h2.lt
   have HB2:Hid (Below w.heap.size w w2):=hb2
   have H2:Hid (Rd w2 w1.heap.size s.size 0 0 r v'):=h2
   have HZ2:Hid (w2.heap[w.heap.size]? =some (.cells ZG 27 (0,0))∧w2.heap[w.heap.size+1]? =some (.cells #[.int .i64 0,.int .i64 (q:Int)] 45 (0,0))):=⟨hz2,hf2⟩
   have HT:Hid (PgIs w2 (fun b=>wr.heap.size≤b) a [.slice j0 m0 d0,.slice j1 m1 d1,.slice j2 m2 d2,.slice j3 m3 d3]):=hx
   have HRR:Hid (Par.readP s.data.toList=Par.restR s.size a r):=by show _=_;rw[HRE.out,hr];rfl
   have hwz:w.heap.size+2≤wr.heap.size:=by have:=lt_of_block HZR.out.2;omega
   obtain⟨c0,_⟩:=h2.cells
   unfold ZG at hz2
   obtain⟨⟨r0,r1,r2,r3⟩,p0,p1,p2,p3⟩:=blkG hz2
   obtain⟨⟨g0,g1⟩,f0,f1⟩:(w2.cell? ⟨w.heap.size+1,0,none⟩=some (.int .i64 0)∧w2.cell? ⟨w.heap.size+1,1,none⟩=some (.int .i64 (q:Int)))∧w2.frozen? ⟨w.heap.size+1,0,none⟩=false∧w2.frozen? ⟨w.heap.size+1,1,none⟩=false:=by refine⟨⟨?_,?_⟩,?_,?_⟩<;>simp[World.cell?,World.frozen?,hf2]
   cases r with
   | nil=>
    obtain⟨ao',c',rfl⟩:=h2.none
    have HOK:Hid (Par.readP s.data.toList=.ok a []):=by show _=_;rw[HRR.out];rfl
    clear hx h2 hr hb2 hz2 hf2 hg2
    go_wp2
    have hz:=HZ2.out.1
    unfold ZG at hz
    obtain⟨k1,k2,k3,k4⟩:=fin6g (a0:=.slice j0 m0 d0) (a1:=.slice j1 m1 d1) (a2:=.slice j2 m2 d2) (a3:=.slice j3 m3 d3) (b0:=.int .i64 0) (b1:=.int .i64 0) hz HZ2.out.2 HB2.out
    have ht:=(HT.out.keeps ⟨by simp[World.setCell],fun b hb _=>k4 b (by omega) (by omega)⟩).mono (S':=fun b=>w.heap.size≤b) fun b hb _=>by omega
    show Leaves _ _ _ _ _ _ _
    refine gdoor_alloc _ k1 k2 k3 ?_ ?_ HOK.out ht
    ·rfl
    ·rfl
   | cons t r=>
    obtain⟨b',off',c',rfl,_,_,hm',_⟩:=h2.some
    have hlen:=h2.len
    simp only[List.length_cons] at hlen
    have HNO:Hid (Par.readP s.data.toList=.no 1 (atP s.size (t::r))):=by show _=_;rw[HRR.out];rfl
    have HG:Hid (∀o,Rd (w2.alloc o) w1.heap.size s.size 0 0 (t::r) (.slice (some ⟨b',off',none⟩) (r.length+1) c')):=fun o=>h2.keeps ((Below.refl _ _).alloc (Nat.le_refl _) o) h2.lt
    unfold maxLen at hm'
    clear hx h2 hr hb2 hz2 hf2 hg2
    go_wp2_with fail
    refine(rGive_any _ (HG.out _)).mono ?_
    rintro x w3 ⟨rfl,hw3⟩
    subst hw3
    exact gdoor_no (HB2.out.alloc (by omega) _) (heap_past_alloc HZ2.out.1) (heap_past_alloc HZ2.out.2) rfl rfl HNO.out
  ·have hb2:Below w.heap.size w w2:=⟨hg2.os.trans HBR.out.os,hg2.tape.trans HBR.out.tape,hg2.output.trans HBR.out.output,Nat.le_trans HBR.out.size hg2.size,fun k hk=>(hg2.block k (by have:=HBR.out.size;omega) (by simp;omega)).trans (HBR.out.block k hk)⟩
   have hz2:w2.heap[w.heap.size]? =some (.cells ZG 27 (0,0)):=(hg2.block _ (lt_of_block HZR.out.1) (by simp;omega)).trans HZR.out.1
   have hf2:w2.heap[w.heap.size+1]? =some (.cells #[.int .i64 0,.int .i64 (q:Int)] 45 (0,0)):=(hg2.block _ (lt_of_block HZR.out.2) (by simp;omega)).trans HZR.out.2
   exact gdoor_no hb2 hz2 hf2 rfl rfl (by rw[HRE.out,hr];rfl)
 ·have bc:(c==0)=false:=by simp[hc]
  have HN:Hid (Par.readP s.data.toList=.no c q):=Par.whole_scan HS.out hc
  clear hc
  go_wp2
  go_region
  all_goals (try go_wp2)
  have hz:=HR1.out.1
  unfold ZG at hz
  have hf2:((w1.setCell ⟨w.heap.size+1,0,none⟩ (.int .i64 c)).setCell ⟨w.heap.size+1,1,none⟩ (.int .i64 (q:Int))).heap[w.heap.size+1]? =some (.cells #[.int .i64 c,.int .i64 (q:Int)] 45 (0,0)):=by simp[World.setCell,Array.getElem?_modify,HR1.out.2]
  obtain⟨k1,k2,k3,_⟩:=fin6g (a0:=.slice none 0 0) (a1:=.slice none 0 0) (a2:=.slice none 0 0) (a3:=.slice none 0 0) (b0:=.int .i64 c) (b1:=.int .i64 (q:Int)) (heap_past_set (a:=⟨w.heap.size+1,1,none⟩) (u:=.int .i64 (q:Int)) (heap_past_set (a:=⟨w.heap.size+1,0,none⟩) (u:=.int .i64 c) hz (by simp)) (by simp)) hf2 ((HB1.out.setCell (by simp) _).setCell (by simp) _)
  show Leaves _ _ _ _ _ _ _
  refine gdoor_drew k1 ?_ k3 ?_ ?_ HN.out
  ·exact k2
  ·rfl
  ·rfl
namespace Par
theorem bind_bad {α β:Type}{x:Res α}{f:α→List Tok→Res β}(hx:∀c q,x=.no c q→c=1∨c=2)(hf:∀a,Bad (f a)):∀c q,x.bind f=.no c q→c=1∨c=2:=by
 intro c q h
 cases x with
 | no c' q'=>cases h;exact hx _ _ rfl
 | ok a r=>exact hf a r c q h
theorem ok_bad {α β:Type}(f:α→β)(a:α):Bad (fun r=>Res.ok (f a) r):=fun ts c q h=>by cases h
theorem semi_bad (e:Nat)(s:Stm):Bad (semi e s):=fun ts=>bind_bad (must_bad e [59] ts) fun _=>ok_bad (fun _=>s) 0
theorem type_bad (e:Nat):Bad (typeR e):=by
 intro ts c q h
 unfold typeR at h
 split at h
 ·cases h
 ·exact bind_bad (must_bad e wBool ts) (fun _=>ok_bad (fun _=>2) 0) c q h
theorem kind_bad (e:Nat):Bad (kindR e):=fun ts=>bind_bad (must_bad e [58] ts) fun _ r1=>bind_bad (type_bad e r1) fun t r2=>bind_bad (label_bad e r2) fun _=>ok_bad (fun l=>(t,l)) _
theorem param_bad (e:Nat):Bad (paramR e):=fun ts=>bind_bad (name_bad e ts) fun s r1=>bind_bad (kind_bad e r1) fun _=>ok_bad (fun k:Int×List Po=>(⟨s,k.1,k.2⟩:Prm)) _
theorem chief_bad (e:Nat):Bad (chiefR e):=fun ts=>bind_bad (must_bad e wChief ts) fun _ r1=>bind_bad (name_bad e r1) fun s r2=>bind_bad (must_bad e [59] r2) fun _=>ok_bad (fun _=>s) 0
theorem acts_bad (e:Nat):Bad (actsR e):=fun ts=>bind_bad (must_bad e wActs ts) fun _ r1=>bind_bad (name_bad e r1) fun s r2=>bind_bad (name_bad e r2) fun t r3=>bind_bad (must_bad e [59] r3) fun _=>ok_bad (fun _=>(s,t)) 0
theorem chan_bad (e:Nat):Bad (chanR e):=fun ts=>bind_bad (param_bad e ts.tail) fun q r1=>bind_bad (must_bad e [59] r1) fun _=>ok_bad (fun _=>(⟨(nx ts).2.1,q.name,(nx ts).2.2==wIn,q.type,q.lab⟩:Chn)) 0
theorem body_bad {e:Nat}{S:List Tok→Res Stm}(hS:Bad S):∀m acc,Bad (bodyF e S m acc):=by
 intro m
 induction m with
 | zero=>
  intro acc ts c q h
  unfold bodyF at h
  split at h
  ·cases h
  ·cases h;exact .inr rfl
 | succ m ih=>
  intro acc ts c q h
  unfold bodyF at h
  split at h
  ·cases h
  ·exact bind_bad (hS ts) (fun s=>ih (acc++[s])) c q h
theorem bears_bad (e:Nat):Bad (bearsR e):=by
 intro ts c q h
 unfold bearsR at h
 split at h
 ·exact bind_bad (label_bad e ts) (fun _=>ok_bad (fun l=>(true,l)) _) c q h
 ·cases h
theorem stm_bad {e:Nat}{B:List Tok→Res (List Stm)}(hB:Bad B):Bad (stmF e B):=by
 intro ts c q h
 unfold stmF at h
 split at h
 ·exact bind_bad (expr_bad e 12 ts.tail) (fun x r1=>bind_bad (hB r1) fun a r2 c q h=>by
   split at h
   ·exact bind_bad (hB r2.tail) (fun _=>ok_bad (fun b=>Stm.mk 3 (nx ts).2.1 (ba []) (ba []) false [] x a b) _) c q h
   ·cases h) c q h
 split at h
 ·exact bind_bad (expr_bad e 12 ts.tail) (fun x r1=>bind_bad (hB r1) fun a=>ok_bad (fun a=>Stm.mk 4 (nx ts).2.1 (ba []) (ba []) false [] x a []) a) c q h
 split at h
 ·exact bind_bad (name_bad e ts.tail) (fun _ r1=>bind_bad (bears_bad e r1) fun _ r2=>bind_bad (must_bad e [61] r2) fun _ r3=>bind_bad (expr_bad e 12 r3) fun _=>semi_bad e _) c q h
 split at h
 ·exact bind_bad (name_bad e ts.tail) (fun _ r1=>bind_bad (expr_bad e 12 r1) fun _=>semi_bad e _) c q h
 split at h
 ·exact bind_bad (name_bad e ts.tail) (fun _ r1=>bind_bad (name_bad e r1) fun _=>semi_bad e _) c q h
 split at h
 ·exact bind_bad (name_bad e ts.tail) (fun s r1=>bind_bad (fun c q h=>bind_bad (encl_bad (expr_bad e 12) r1) (fun _=>ok_bad (fun a=>Tr.mk 4 (atP e ts.tail) 0 0 s [] a) _) c q h) fun _=>semi_bad e _) c q h
 split at h
 ·exact bind_bad (expr_bad e 12 ts.tail) (fun _=>semi_bad e _) c q h
 ·exact bind_bad (name_bad e ts) (fun _ r1=>bind_bad (must_bad e [61] r1) fun _ r2=>bind_bad (expr_bad e 12 r2) fun _=>semi_bad e _) c q h
theorem block_bad (e:Nat):∀k,Bad (block e k):=by
 intro k
 induction k with
 | zero=>exact fun ts=>bind_bad (must_bad e [123] ts) fun _ r c q h=>by cases h;exact .inr rfl
 | succ k ih=>exact fun ts=>bind_bad (must_bad e [123] ts) fun _=>body_bad (stm_bad ih) 20 []
theorem proc_bad (e:Nat):Bad (procR e):=fun ts=>bind_bad (must_bad e wProc ts) fun p r1=>bind_bad (name_bad e r1) fun s r2=>bind_bad (encl_bad (param_bad e) r2) fun q r3=>bind_bad (fun c q h=>by
 unfold resultR at h
 split at h
 ·exact bind_bad (kind_bad e r3) (fun _=>ok_bad (fun k:Int×List Po=>(⟨ba [],k.1,k.2⟩:Prm)) _) c q h
 ·cases h) fun t r4=>bind_bad (fun c q h=>by
 unfold beginR at h
 split at h
 ·exact label_bad e _ c q h
 ·cases h) fun b r5=>bind_bad (fun c q h=>by
 unfold forR at h
 split at h
 ·exact listR_bad (name_bad e) _ c q h
 ·cases h) fun f r6=>bind_bad (block_bad e 12 r6) fun _=>ok_bad (fun y=>(⟨p,s,q,t,b,f,y⟩:Prc)) _
theorem more_bad {α:Type}{e m:Nat}{l:List α}{P:List Tok→Res α}(hP:Bad P):Bad (moreR e m l P):=by
 intro ts c q h
 unfold moreR at h
 split at h
 ·cases h;exact .inr rfl
 ·exact bind_bad (hP ts) (fun _=>ok_bad (fun a=>l++[a]) _) c q h
theorem part_bad (e:Nat)(p:Prg):Bad (partR e p):=by
 intro ts c q h
 unfold partR at h
 split at h
 ·exact bind_bad (more_bad (chief_bad e) ts) (fun _=>ok_bad (fun l=>{p with chiefs:=l}) _) c q h
 split at h
 ·exact bind_bad (more_bad (acts_bad e) ts) (fun _=>ok_bad (fun l=>{p with acts:=l}) _) c q h
 split at h
 ·exact bind_bad (more_bad (chan_bad e) ts) (fun _=>ok_bad (fun l=>{p with chans:=l}) _) c q h
 split at h
 ·exact bind_bad (more_bad (proc_bad e) ts) (fun _=>ok_bad (fun l=>{p with procs:=l}) _) c q h
 ·cases h;exact .inl rfl
theorem prog_bad (e:Nat):Bad (progR e):=by
 have key:∀f p,Bad (progF e f p):=by
  intro f
  induction f with
  | zero=>intro p ts c q h;cases h
  | succ f ih=>
   intro p ts c q h
   unfold progF at h
   split at h
   ·cases h
   ·exact bind_bad (part_bad e p ts) (fun a=>ih a) c q h
 exact fun ts=>key _ _ ts
end Par
theorem atoiC:AtoiC:=fun s n w hs h=>Tryz.strconv_Atoi s n w hs h
noncomputable def Par.parseG (l:List UInt8):Res Prg:=(Par.readP l).bind fun t _=>if dB (DpG t)=true then .ok t [] else .no 2 0
theorem hdoor {w wz:World}{tm:Array Value}{res:Res Prg}{c:Int}{q:Nat}(hb:Below w.heap.size w wz)(hz:wz.heap[w.heap.size]? =some (.cells ZG 27 (0,0)))(hf:wz.heap[w.heap.size+1]? =some (.cells #[.int .i64 c,.int .i64 (q:Int)] 45 (0,0)))
 (h2:tm[2]? =some (.pointer (some ⟨w.heap.size,0,none⟩))) (h3:tm[3]? =some (.pointer (some ⟨w.heap.size+1,0,none⟩))) (hr:res=.no c q):
 bodyPost Tryz.prog Tryz.f17 (GPost w res) .ret {tmps:=tm,defers:=[]} wz:=by
 unfold ZG at hz
 obtain⟨⟨q0,q1,q2,q3⟩,_⟩:=blkG hz
 have e0:wz.cell? ⟨w.heap.size+1,0,none⟩=some (.int .i64 c):=by simp[World.cell?,hf]
 have e1:wz.cell? ⟨w.heap.size+1,1,none⟩=some (.int .i64 (q:Int)):=by simp[World.cell?,hf]
 exact bodyPost_ret (v:=.tuple #[.agg ZG,.agg #[.int .i64 c,.int .i64 (q:Int)]]) (by simp[results,Tryz.results17,go_sem,h2,h3,q0,q1,q2,q3,e0,e1,ZG]) rfl ⟨hb,.inr ⟨c,q,hr,rfl⟩⟩
theorem hdoor_ok {w wz:World}{tm:Array Value}{res:Res Prg}{t:Prg}{j0:Option Addr}{m0 d0:Nat}{j1:Option Addr}{m1 d1:Nat}{j2:Option Addr}{m2 d2:Nat}{j3:Option Addr}{m3 d3:Nat}(hb:Below w.heap.size w wz)(hz:wz.heap[w.heap.size]? =some (.cells #[.slice j0 m0 d0,.slice j1 m1 d1,.slice j2 m2 d2,.slice j3 m3 d3] 27 (0,0)))(hf:wz.heap[w.heap.size+1]? =some (.cells #[.int .i64 0,.int .i64 0] 45 (0,0)))
 (h2:tm[2]? =some (.pointer (some ⟨w.heap.size,0,none⟩))) (h3:tm[3]? =some (.pointer (some ⟨w.heap.size+1,0,none⟩))) (hr:res=.ok t []) (ht:PgIs wz (fun b=>w.heap.size≤b) t [.slice j0 m0 d0,.slice j1 m1 d1,.slice j2 m2 d2,.slice j3 m3 d3]):
 bodyPost Tryz.prog Tryz.f17 (GPost w res) .ret {tmps:=tm,defers:=[]} wz.drew:=by
 obtain⟨⟨q0,q1,q2,q3⟩,_⟩:=blkG hz
 have e0:wz.cell? ⟨w.heap.size+1,0,none⟩=some (.int .i64 0):=by simp[World.cell?,hf]
 have e1:wz.cell? ⟨w.heap.size+1,1,none⟩=some (.int .i64 0):=by simp[World.cell?,hf]
 exact bodyPost_ret (v:=.tuple #[.agg #[.slice j0 m0 d0,.slice j1 m1 d1,.slice j2 m2 d2,.slice j3 m3 d3],.agg #[.int .i64 0,.int .i64 0]]) (by simp[results,Tryz.results17,go_sem,h2,h3,q0,q1,q2,q3,e0,e1]) rfl ⟨hb.drew,.inl ⟨t,hr,_,_,_,_,_,_,_,_,_,_,_,_,rfl,ht.keeps ⟨Nat.le_refl _,fun _ _ _=>rfl⟩⟩⟩
theorem hdoor_drew {w wz:World}{tm:Array Value}{res:Res Prg}{c:Int}{q:Nat}(hb:Below w.heap.size w wz)(hz:wz.heap[w.heap.size]? =some (.cells ZG 27 (0,0)))(hf:wz.heap[w.heap.size+1]? =some (.cells #[.int .i64 c,.int .i64 (q:Int)] 45 (0,0)))
 (h2:tm[2]? =some (.pointer (some ⟨w.heap.size,0,none⟩))) (h3:tm[3]? =some (.pointer (some ⟨w.heap.size+1,0,none⟩))) (hr:res=.no c q):
 bodyPost Tryz.prog Tryz.f17 (GPost w res) .ret {tmps:=tm,defers:=[]} wz.drew:=hdoor (wz:=wz.drew) hb.drew hz hf h2 h3 hr
theorem parseCG (s:ByteArray)(w:World)(hs:s.size≤maxLen)(hl:LevAt w w.heap.size):
 Calls Tryz.prog 17 #[.string s] w (GPost w (Par.parseG s.data.toList)):=by
 obtain⟨w0,hw0⟩:∃w0,w0=(w.alloc (.cells ZG 27)).alloc (.cells #[.int .i64 0,.int .i64 0] 45):=⟨_,rfl⟩
 have hbel:Below w.heap.size w w0:=by rw[hw0];exact((Below.refl _ _).alloc (Nat.le_refl _) _).alloc (by simp) _
 have hs0:w0.heap.size=w.heap.size+2:=by rw[hw0];simp
 have hres:w0.heap[w.heap.size]? =some (.cells ZG 27 (0,0)):=by rw[hw0];exact heap_past_alloc (heap_at_alloc _ _ _ rfl)
 have hfau:w0.heap[w.heap.size+1]? =some (.cells #[.int .i64 0,.int .i64 0] 45 (0,0)):=by rw[hw0];exact heap_at_alloc _ _ _ (by simp)
 have hwh:=wholeG (fun rb e w ts v h=>programC atoiC h) s w0 hs ((hl.keeps hbel.size fun b hb=>hbel.block b hb).mono (by omega))
 have HL:Hid (∀V,Below w.heap.size w V→LevAt V w.heap.size):=fun V hV=>hl.keeps hV.size fun b hb=>hV.block b hb
 have HB:Hid (Below w.heap.size w w0):=hbel
 have HR:Hid (w0.heap[w.heap.size]? =some (.cells ZG 27 (0,0))∧w0.heap[w.heap.size+1]? =some (.cells #[.int .i64 0,.int .i64 0] 45 (0,0))):=⟨hres,hfau⟩
 have HZ:Hid (w0.heap.size=w.heap.size+2):=hs0
 unfold ZG at hw0
 clear hl hbel hres hfau hs0
 go_enter Tryz.func17,Tryz.ntmps17
 go_wp2_with fail
 rw[←hw0]
 clear hw0
 refine hwh.mono ?_
 rintro x W1 ⟨hb1,⟨t,hr,j0,m0,d0,j1,m1,d1,j2,m2,d2,j3,m3,d3,rfl,ht⟩|⟨c,q,hr,rfl⟩⟩
 ·have hz0:=HZ.out
  have hz1:=hb1.size
  have hr1:W1.heap[w.heap.size]? =some (.cells ZG 27 (0,0)):=(hb1.block _ (by omega)).trans HR.out.1
  have hf1:W1.heap[w.heap.size+1]? =some (.cells #[.int .i64 0,.int .i64 0] 45 (0,0)):=(hb1.block _ (by omega)).trans HR.out.2
  have hbw:Below w.heap.size w W1:=HB.out.trans (hb1.mono (by omega))
  obtain⟨W2,hW2⟩:∃W2,W2=(W1.alloc (.cells #[.slice j0 m0 d0,.slice j1 m1 d1,.slice j2 m2 d2,.slice j3 m3 d3] 27)).alloc (.cells #[.int .i64 0,.int .i64 0] 45):=⟨_,rfl⟩
  have hb2:Below W1.heap.size W1 W2:=by rw[hW2];exact((Below.refl _ _).alloc (Nat.le_refl _) _).alloc (by simp) _
  have hbw2:Below w.heap.size w W2:=hbw.trans (hb2.mono (by omega))
  have ht2:=(ht.keeps (Keeps.of_below hb2))
  have hzz2:W2.heap.size=W1.heap.size+2:=by rw[hW2];simp
  have hfo:=checkC ht2 (Par.read_pgx hr) ((HL.out _ hbw2).mono (by omega))
  have hx2:W2.heap[W1.heap.size]? =some (.cells #[.slice j0 m0 d0,.slice j1 m1 d1,.slice j2 m2 d2,.slice j3 m3 d3] 27 (0,0)):=by rw[hW2];exact heap_past_alloc (heap_at_alloc _ _ _ rfl)
  have hy2:W2.heap[W1.heap.size+1]? =some (.cells #[.int .i64 0,.int .i64 0] 45 (0,0)):=by rw[hW2];exact heap_at_alloc _ _ _ (by simp)
  have HT2:Hid (PgIs W2 (fun b=>w0.heap.size≤b) t [.slice j0 m0 d0,.slice j1 m1 d1,.slice j2 m2 d2,.slice j3 m3 d3]):=ht2
  have HBW2:Hid (Below w.heap.size w W2):=hbw2
  have HRF:Hid (W2.heap[w.heap.size]? =some (.cells ZG 27 (0,0))∧W2.heap[w.heap.size+1]? =some (.cells #[.int .i64 0,.int .i64 0] 45 (0,0))):=⟨(hb2.block _ (lt_of_block hr1)).trans hr1,(hb2.block _ (lt_of_block hf1)).trans hf1⟩
  have HXY:Hid (W2.heap[W1.heap.size]? =some (.cells #[.slice j0 m0 d0,.slice j1 m1 d1,.slice j2 m2 d2,.slice j3 m3 d3] 27 (0,0))∧W2.heap[W1.heap.size+1]? =some (.cells #[.int .i64 0,.int .i64 0] 45 (0,0))):=⟨hx2,hy2⟩
  have hwl:w.heap.size+2≤W1.heap.size:=by omega
  have HPE:Hid (Par.parseG s.data.toList=if dB (DpG t)=true then .ok t [] else .no 2 0):=by show _=_;unfold Par.parseG;rw[hr];rfl
  cases hq:dB (DpG t) with
  | true=>
   unfold CkP at hfo
   rw[hq] at hfo HPE
   simp only[if_true] at hfo
   have HOK:Hid (Par.parseG s.data.toList=.ok t []):=HPE.out
   clear hq ht ht2 hx2 hy2 hbw2 hb2 hbw hr1 hf1 hb1 hwh hr hzz2 hz1 hz0
   go_wp2_with fail
   rw[←hW2]
   clear hW2
   refine hfo.mono ?_
   rintro x W3 ⟨rfl,hb3⟩
   have hb3w:Below w.heap.size w W3:=HBW2.out.trans (hb3.mono HBW2.out.size)
   have hn3:W3.heap[w.heap.size]? =some (.cells ZG 27 (0,0)):=(hb3.block _ (lt_of_block HRF.out.1)).trans HRF.out.1
   have hm3:W3.heap[w.heap.size+1]? =some (.cells #[.int .i64 0,.int .i64 0] 45 (0,0)):=(hb3.block _ (lt_of_block HRF.out.2)).trans HRF.out.2
   have hx3:W3.heap[W1.heap.size]? =some (.cells #[.slice j0 m0 d0,.slice j1 m1 d1,.slice j2 m2 d2,.slice j3 m3 d3] 27 (0,0)):=(hb3.block _ (lt_of_block HXY.out.1)).trans HXY.out.1
   have hy3:W3.heap[W1.heap.size+1]? =some (.cells #[.int .i64 0,.int .i64 0] 45 (0,0)):=(hb3.block _ (lt_of_block HXY.out.2)).trans HXY.out.2
   have HRF3:Hid (W3.heap[w.heap.size]? =some (.cells ZG 27 (0,0))∧W3.heap[w.heap.size+1]? =some (.cells #[.int .i64 0,.int .i64 0] 45 (0,0))):=⟨hn3,hm3⟩
   have HBW3:Hid (Below w.heap.size w W3):=hb3w
   have HT3:Hid (PgIs W3 (fun b=>w0.heap.size≤b) t [.slice j0 m0 d0,.slice j1 m1 d1,.slice j2 m2 d2,.slice j3 m3 d3]):=HT2.out.keeps (Keeps.of_below hb3)
   have n1:=lt_of_block hn3
   have n2:=lt_of_block hm3
   have n3:=lt_of_block hx3
   have n4:=lt_of_block hy3
   unfold ZG at hn3
   obtain⟨⟨r0,r1,r2,r3⟩,p0,p1,p2,p3⟩:=blkG hn3
   obtain⟨⟨x0,x1,x2,x3⟩,_⟩:=blkG hx3
   obtain⟨⟨g0,g1⟩,f0,f1⟩:(W3.cell? ⟨w.heap.size+1,0,none⟩=some (.int .i64 0)∧W3.cell? ⟨w.heap.size+1,1,none⟩=some (.int .i64 0))∧W3.frozen? ⟨w.heap.size+1,0,none⟩=false∧W3.frozen? ⟨w.heap.size+1,1,none⟩=false:=by refine⟨⟨?_,?_⟩,?_,?_⟩<;>simp[World.cell?,World.frozen?,hm3]
   obtain⟨y0,y1⟩:W3.cell? ⟨W1.heap.size+1,0,none⟩=some (.int .i64 0)∧W3.cell? ⟨W1.heap.size+1,1,none⟩=some (.int .i64 0):=blkL hy3
   clear hb3 hb3w hn3 hm3 hx3 hy3
   go_wp2
   go_region
   all_goals (try go_wp2)
   have hz:=HRF3.out.1
   unfold ZG at hz
   obtain⟨k1,k2,k3,k4⟩:=fin6g (a0:=.slice j0 m0 d0) (a1:=.slice j1 m1 d1) (a2:=.slice j2 m2 d2) (a3:=.slice j3 m3 d3) (b0:=.int .i64 0) (b1:=.int .i64 0) hz HRF3.out.2 HBW3.out
   have hw0z:=HZ.out
   have ht:=(HT3.out.keeps ⟨by simp[World.setCell],fun b hb _=>k4 b (by omega) (by omega)⟩).mono (S':=fun b=>w.heap.size≤b) fun b hb _=>by omega
   refine hdoor_ok k1 k2 k3 ?_ ?_ HOK.out ht
   ·rfl
   ·rfl
  | false=>
   unfold CkP at hfo
   rw[hq] at hfo HPE
   simp only[Bool.false_eq_true,if_false] at hfo
   have HNO:Hid (Par.parseG s.data.toList=.no 2 0):=HPE.out
   clear hq ht ht2 hx2 hy2 hbw2 hb2 hbw hr1 hf1 hb1 hwh hr hzz2 hz1 hz0
   go_wp2_with fail
   rw[←hW2]
   clear hW2
   refine hfo.mono ?_
   rintro x W3 ⟨rfl,hb3⟩
   have hb3w:Below w.heap.size w W3:=HBW2.out.trans (hb3.mono HBW2.out.size)
   have hn3:W3.heap[w.heap.size]? =some (.cells ZG 27 (0,0)):=(hb3.block _ (lt_of_block HRF.out.1)).trans HRF.out.1
   have hm3:W3.heap[w.heap.size+1]? =some (.cells #[.int .i64 0,.int .i64 0] 45 (0,0)):=(hb3.block _ (lt_of_block HRF.out.2)).trans HRF.out.2
   have hx3:W3.heap[W1.heap.size]? =some (.cells #[.slice j0 m0 d0,.slice j1 m1 d1,.slice j2 m2 d2,.slice j3 m3 d3] 27 (0,0)):=(hb3.block _ (lt_of_block HXY.out.1)).trans HXY.out.1
   have hy3:W3.heap[W1.heap.size+1]? =some (.cells #[.int .i64 0,.int .i64 0] 45 (0,0)):=(hb3.block _ (lt_of_block HXY.out.2)).trans HXY.out.2
   have HRF3:Hid (W3.heap[w.heap.size]? =some (.cells ZG 27 (0,0))∧W3.heap[w.heap.size+1]? =some (.cells #[.int .i64 0,.int .i64 0] 45 (0,0))):=⟨hn3,hm3⟩
   have HBW3:Hid (Below w.heap.size w W3):=hb3w
   have HT3:Hid (PgIs W3 (fun b=>w0.heap.size≤b) t [.slice j0 m0 d0,.slice j1 m1 d1,.slice j2 m2 d2,.slice j3 m3 d3]):=HT2.out.keeps (Keeps.of_below hb3)
   have n1:=lt_of_block hn3
   have n2:=lt_of_block hm3
   have n3:=lt_of_block hx3
   have n4:=lt_of_block hy3
   unfold ZG at hn3
   obtain⟨⟨r0,r1,r2,r3⟩,p0,p1,p2,p3⟩:=blkG hn3
   obtain⟨⟨x0,x1,x2,x3⟩,_⟩:=blkG hx3
   obtain⟨⟨g0,g1⟩,f0,f1⟩:(W3.cell? ⟨w.heap.size+1,0,none⟩=some (.int .i64 0)∧W3.cell? ⟨w.heap.size+1,1,none⟩=some (.int .i64 0))∧W3.frozen? ⟨w.heap.size+1,0,none⟩=false∧W3.frozen? ⟨w.heap.size+1,1,none⟩=false:=by refine⟨⟨?_,?_⟩,?_,?_⟩<;>simp[World.cell?,World.frozen?,hm3]
   obtain⟨y0,y1⟩:W3.cell? ⟨W1.heap.size+1,0,none⟩=some (.int .i64 0)∧W3.cell? ⟨W1.heap.size+1,1,none⟩=some (.int .i64 0):=blkL hy3
   clear hb3 hb3w hn3 hm3 hx3 hy3
   go_wp2
   have hz:=HRF3.out.1
   unfold ZG at hz
   obtain⟨k1,k2,k3,k4⟩:=fin6g (a0:=.slice none 0 0) (a1:=.slice none 0 0) (a2:=.slice none 0 0) (a3:=.slice none 0 0) (b0:=.int .i64 2) (b1:=.int .i64 0) hz HRF3.out.2 HBW3.out
   refine hdoor (c:=2) (q:=0) k1 ?_ k3 ?_ ?_ HNO.out
   ·exact k2
   ·rfl
   ·rfl
 ·have hz0:=HZ.out
  have hz1:=hb1.size
  have hr1:W1.heap[w.heap.size]? =some (.cells ZG 27 (0,0)):=(hb1.block _ (by omega)).trans HR.out.1
  have hf1:W1.heap[w.heap.size+1]? =some (.cells #[.int .i64 0,.int .i64 0] 45 (0,0)):=(hb1.block _ (by omega)).trans HR.out.2
  have hbw:Below w.heap.size w W1:=HB.out.trans (hb1.mono (by omega))
  have hc0:c≠0:=Par.whole_bad Par.prog_bad _ hr
  have bc:(c==0)=false:=by simp[hc0]
  have HNO:Hid (Par.parseG s.data.toList=.no c q):=by show _=_;unfold Par.parseG;rw[hr];rfl
  obtain⟨W2,hW2⟩:∃W2,W2=(W1.alloc (.cells ZG 27)).alloc (.cells #[.int .i64 c,.int .i64 (q:Int)] 45):=⟨_,rfl⟩
  have hb2:Below W1.heap.size W1 W2:=by rw[hW2];exact((Below.refl _ _).alloc (Nat.le_refl _) _).alloc (by simp) _
  have HRF:Hid (W2.heap[w.heap.size]? =some (.cells ZG 27 (0,0))∧W2.heap[w.heap.size+1]? =some (.cells #[.int .i64 0,.int .i64 0] 45 (0,0))):=⟨(hb2.block _ (lt_of_block hr1)).trans hr1,(hb2.block _ (lt_of_block hf1)).trans hf1⟩
  have HBW2:Hid (Below w.heap.size w W2):=hbw.trans (hb2.mono (by omega))
  have hx2:W2.heap[W1.heap.size]? =some (.cells ZG 27 (0,0)):=by rw[hW2];exact heap_past_alloc (heap_at_alloc _ _ _ rfl)
  have hy2:W2.heap[W1.heap.size+1]? =some (.cells #[.int .i64 c,.int .i64 (q:Int)] 45 (0,0)):=by rw[hW2];exact heap_at_alloc _ _ _ (by simp)
  have HXY:Hid (W2.heap[W1.heap.size]? =some (.cells ZG 27 (0,0))∧W2.heap[W1.heap.size+1]? =some (.cells #[.int .i64 c,.int .i64 (q:Int)] 45 (0,0))):=⟨hx2,hy2⟩
  have HW2:Hid (W2=(W1.alloc (.cells #[.slice none 0 0,.slice none 0 0,.slice none 0 0,.slice none 0 0] 27)).alloc (.cells #[.int .i64 c,.int .i64 (q:Int)] 45)):=hW2
  have hwl:w.heap.size+2≤W1.heap.size:=by omega
  clear hb1 hr1 hf1 hbw hc0 hb2 hW2 hr hz0 hz1 hx2 hy2 hwh
  unfold ZG
  go_wp2
  rw[←HW2.out]
  have hn3:=HRF.out.1
  have hm3:=HRF.out.2
  have hx3:=HXY.out.1
  have n1:=lt_of_block hn3
  have n2:=lt_of_block hm3
  have n3:=lt_of_block hx3
  have n4:=lt_of_block HXY.out.2
  unfold ZG at hn3 hx3
  obtain⟨⟨r0,r1,r2,r3⟩,p0,p1,p2,p3⟩:=blkG hn3
  obtain⟨⟨x0,x1,x2,x3⟩,_⟩:=blkG hx3
  obtain⟨⟨g0,g1⟩,f0,f1⟩:(W2.cell? ⟨w.heap.size+1,0,none⟩=some (.int .i64 0)∧W2.cell? ⟨w.heap.size+1,1,none⟩=some (.int .i64 0))∧W2.frozen? ⟨w.heap.size+1,0,none⟩=false∧W2.frozen? ⟨w.heap.size+1,1,none⟩=false:=by refine⟨⟨?_,?_⟩,?_,?_⟩<;>simp[World.cell?,World.frozen?,hm3]
  obtain⟨y0,y1⟩:W2.cell? ⟨W1.heap.size+1,0,none⟩=some (.int .i64 c)∧W2.cell? ⟨W1.heap.size+1,1,none⟩=some (.int .i64 (q:Int)):=blkL HXY.out.2
  have hz:W2.heap[w.heap.size]? =some (.cells #[.slice none 0 0,.slice none 0 0,.slice none 0 0,.slice none 0 0] 27 (0,0)):=hn3
  have HZZ:Hid (W2.heap[w.heap.size]? =some (.cells #[.slice none 0 0,.slice none 0 0,.slice none 0 0,.slice none 0 0] 27 (0,0))):=hz
  clear hn3 hm3 hx3 hz
  go_region
  all_goals (try go_wp2)
  obtain⟨k1,k2,k3,k4⟩:=fin6g (a0:=.slice none 0 0) (a1:=.slice none 0 0) (a2:=.slice none 0 0) (a3:=.slice none 0 0) (b0:=.int .i64 c) (b1:=.int .i64 (q:Int)) HZZ.out HRF.out.2 HBW2.out
  refine hdoor_drew k1 ?_ k3 ?_ ?_ HNO.out
  ·exact k2
  ·rfl
  ·rfl
end Go.Proofs.YtepkhlpjgnckkaaGreatDoor
