/- scope: the one block within that the closed fact has: what is laid ahead of it and behind it. And more of the same. -/
import Derived.Test.YtepkhlpjgnckkaaGreatDoorZA8
namespace Go.Proofs.YtepkhlpjgnckkaaGreatDoor
set_option maxRecDepth 100000
set_option maxHeartbeats 8000000
open Go.RowKit
open Par (Tr Stm Prm Chn Prc Prg Po ba)
theorem plcCheck (em:Bool)(a:Addr)(n:Nat)(w:World):(Instr.checkKey em 10000 243 (.agg #[.pointer (some a),.int .i64 (n:Int)])).run Tryz.prog w=.ok () w:=by kernel_rfl
theorem plcNow (k:Value)(t:TypeDesc):Instr.findNow t k [] 0=some none:=rfl
abbrev plcV (b off n:Nat):Value:=.agg #[.pointer (some ⟨b,off,none⟩),.int .i64 (n:Int)]
abbrev rightT:=165
theorem right_asks {w:World}{B c:Nat}(h:w.heap[B]? =some (.map #[] c))(b off n:Nat):(Instr.lookup rightT (.map (some B)) (plcV b off n) false).run Tryz.prog w=.ok (.slice none 0 0) w:=by
 have hc:=plcCheck true ⟨b,off,none⟩ n w
 simp only[Instr.lookup,Instr.findKey,Sem.run_bind,run_underlying Tryz.underlying165,Result.andThen_ok,MapKept.run_getObj_map h,Sem.run_pure,run_underlying Tryz.underlying243]
 simp[hc,plcNow]
theorem right_entry {w:World}{B c:Nat}(h:w.heap[B]? =some (.map #[] c))(b off n:Nat):∃w',(Instr.mapEntry rightT (.map (some B)) (plcV b off n)).run Tryz.prog w=.ok (.tuple #[.slice none 0 0,.int .i64 (c:Int)]) w'∧w'.heap[B]? =some (.map #[⟨plcV b off n,.slice none 0 0,c⟩] (c+1))∧w.grownBy w' (some B):=by
 have hc:=plcCheck false ⟨b,off,none⟩ n w
 have hlt:=lt_of_block h
 refine⟨{w with heap:=w.heap.setIfInBounds B (.map #[⟨plcV b off n,.slice none 0 0,c⟩] (c+1))},?_,by simp[hlt],grown_obj _⟩
 simp only[Instr.mapEntry,Instr.findKey,Sem.run_bind,run_underlying Tryz.underlying165,Result.andThen_ok,MapKept.run_getObj_map h,run_underlying Tryz.underlying243]
 simp[hc,plcNow,MapKept.run_setObj_map _ h,goInt]
theorem right_store {w:World}{B c c':Nat}{k v:Value}(h:w.heap[B]? =some (.map #[⟨k,v,c⟩] c'))(x:Value):∃w',(Instr.entryStore rightT (.map (some B)) (.int .i64 (c:Int)) x).run Tryz.prog w=.ok () w'∧w.grownBy w' (some B):=by
 refine⟨{w with heap:=w.heap.setIfInBounds B (.map (#[(⟨k,v,c⟩:MapEntry)].modify 0 fun e=>{e with val:=x}) c')},?_,grown_obj _⟩
 simp only[Instr.entryStore,Sem.run_bind,Result.andThen_ok,MapKept.run_getObj_map h]
 simp[asInt,asIntOf,MapKept.run_setObj_map _ h]
structure Rc (w:World)(L rb pb lb fuel lc:Nat)(P:Prg)(cv av nv qv:Value)(ev:Value)(g:Rr.Sg):Prop where
 rs:RS w L rb pb lb fuel lc ev g
 pm:Pm w pb L P cv av nv qv
 lev:LevAt w L
 sz:L≤w.heap.size
theorem Rc.next {w w':World}{L rb pb lb fuel lc:Nat}{P:Prg}{cv av nv qv ev ev':Value}{g g':Rr.Sg}(h:Rc w L rb pb lb fuel lc P cv av nv qv ev g)(hr:RS w' L rb pb lb fuel lc ev' g')(hk:Kr rb lb ev ev' w w'):Rc w' L rb pb lb fuel lc P cv av nv qv ev' g':=by
 have hlow:∀b,b<L→w'.heap[b]? =w.heap[b]? :=fun b hb=>hk.low h.rs.rl h.rs.ll (fun k e=>(h.rs.evl k e).1) hb (Nat.lt_of_lt_of_le hb h.sz)
 refine⟨hr,h.pm.keeps ⟨hk.kp.size,fun b hb hl=> ?_⟩,h.lev.keeps hk.kp.size hlow,Nat.le_trans h.sz hk.kp.size⟩
 rcases hb with hb | rfl
 ·exact hlow b hb
 ·exact hk.kp.block b ⟨h.rs.pn.1,h.rs.pn.2,fun e=>(h.rs.eb b e.symm).2.2 rfl⟩ hl
def Ap (X:Nat→Prop)(L rb lb pb:Nat)(ev:Value):Prop:=∀b,X b→L≤b∧b≠rb∧b≠lb∧b≠pb∧some b≠ev.ownBlock
theorem Ap.next {X:Nat→Prop}{L rb lb pb:Nat}{ev ev':Value}{w w':World}(h:Ap X L rb lb pb ev)(hX:∀b,X b→b<w.heap.size)(hk:Kr rb lb ev ev' w w'):Ap X L rb lb pb ev':=fun b hb=>⟨(h b hb).1,(h b hb).2.1,(h b hb).2.2.1,(h b hb).2.2.2.1,fun e=>by
 rcases hk.ev b e.symm with e' | e'
 ·exact(h b hb).2.2.2.2 e'.symm
 ·have:=hX b hb;omega⟩
theorem Rf.next {w w':World}{fb rb deep L lb pb:Nat}{X:Nat→Prop}{vo:Option Addr}{vc:Nat}{nbs:List Nat}{env:Rr.Env}{back:Int}{ev ev':Value}(h:Rf w fb rb deep X vo vc nbs env back)(ha:Ap X L rb lb pb ev)(hk:Kr rb lb ev ev' w w'):Rf w' fb rb deep X vo vc nbs env back:=h.keeps hk.kp.size fun b hb=>hk.kp.block b ⟨(ha b hb).2.1,(ha b hb).2.2.1,(ha b hb).2.2.2.2⟩ (h.up b hb).2
theorem At.next {w w':World}{L rb lb b off:Nat}{cs:List Value}{ev ev':Value}(h:At w (fun b=>b<L) b off cs)(h1:L≤rb)(h2:L≤lb)(h3:∀k,ev.ownBlock=some k→L≤k)(hk:Kr rb lb ev ev' w w'):At w' (fun b=>b<L) b off cs:=
 h.keeps ⟨hk.kp.size,fun _ hb hl=>hk.low h1 h2 h3 hb hl⟩
def ValC (L rb pb lb fuel lc:Nat)(P:Prg)(cv av nv qv:Value)(V:Nat→Rr.Env→Tr→Rr.Sg→Option (Int×Rr.Sg)):Prop:=
 ∀(w:World) (deep fb:Nat) (X:Nat→Prop) (vo:Option Addr) (vc:Nat) (nbs:List Nat) (env:Rr.Env) (back:Int) (ev:Value) (g g':Rr.Sg) (x:Tr) (b off:Nat) (cs:List Value) (n:Int),
  Rc w L rb pb lb fuel lc P cv av nv qv ev g→Rf w fb rb deep X vo vc nbs env back→Ap X L rb lb pb ev→At w (fun b=>b<L) b off cs→TrIs w (fun b=>b<L) x cs→V deep env x g=some (n,g')→
  Calls Tryz.prog 92 #[.pointer (some ⟨fb,0,none⟩),.pointer (some ⟨b,off,none⟩)] w fun r w'=>r=.returned (.int .i64 n)∧∃ev',RS w' L rb pb lb fuel lc ev' g'∧Kr rb lb ev ev' w w'
theorem RS.same {w w':World}{L rb pb lb fuel lc:Nat}{ev:Value}{g:Rr.Sg}(h:RS w L rb pb lb fuel lc ev g)(hk:∀b,b<L∨b=rb∨b=lb∨ev.ownBlock=some b→w'.heap[b]? =w.heap[b]?):RS w' L rb pb lb fuel lc ev g:=by
 obtain⟨C,k1,k2⟩:=h.lef
 obtain⟨css,h1,h2,h3⟩:=h.evs.ex
 refine⟨(hk rb (.inr (.inl rfl))).trans h.blk,⟨C,(hk lb (.inr (.inr (.inl rfl)))).trans k1,fun i hi=> ?_⟩,⟨css,own_kept2 h1 fun k e=>hk k (.inr (.inr (.inr e))),h2,h3⟩,h.rl,h.ll,h.ne,h.eb,h.pn,h.ef,h.sf,h.ff,h.lf⟩
 obtain⟨x,c,e1,e2,e3⟩:=k2 i hi
 exact⟨x,c,e1,e2,e3.keeps fun b hb=>hk b (.inl hb)⟩
theorem Kr.grow {rb lb:Nat}{ev ev':Value}{w w1 w2:World}(h:Kr rb lb ev ev' w w1)(hs:Sm w1 w2)(hz:w1.heap.size≤w2.heap.size)(hk:∀b,b<w.heap.size→w2.heap[b]? =w1.heap[b]?):Kr rb lb ev ev' w w2:=
 ⟨⟨Nat.le_trans h.kp.size hz,fun b hb hl=>(hk b hl).trans (h.kp.block b hb hl)⟩,h.ev,h.sm.trans hs⟩
def ElI (_:World)(_:Nat→Prop)(n:Int)(cs:List Value):Prop:=cs=[.int .i64 n]
theorem isElI:IsEl ElI 1:=⟨fun h _=>h,fun h _=>h,fun h=>by cases h;rfl,fun h u hu=>by
 cases h
 simp only[List.mem_cons,List.not_mem_nil,or_false] at hu
 subst hu
 rfl⟩
theorem Tryz.infoI:(Tryz.prog.info? 3).map (fun i=>(i.zero,i.size,i.bytes))=some (some (.int .i64 0),1,8):=by kernel_rfl
def VsI (L rb pb lb fuel lc:Nat)(P:Prg)(cv av nv qv:Value)(V:Tr→Rr.Sg→Option (Int×Rr.Sg))(w wr:World)(ev0:Value)(a:List Tr)(ns:List Int)(g':Rr.Sg)(k:Nat)(ov:Value):Prop:=
 ∃ev g nk nr,ns=nk++nr∧nk.length=k∧Rr.seqV V (a.drop k) g=some (nr,g')∧Rc wr L rb pb lb fuel lc P cv av nv qv ev g∧Kr rb lb ev0 ev w wr∧OwnL ElI wr w.heap.size 3 1 ov nk∧∀b,ov.ownBlock=some b→some b≠ev.ownBlock
theorem VsI.step {L rb pb lb fuel lc:Nat}{P:Prg}{cv av nv qv:Value}{V:Tr→Rr.Sg→Option (Int×Rr.Sg)}{w wr w1 w2:World}{ev0 ev ev1:Value}{a:List Tr}{nk nr:List Int}{n:Int}{g g1 g':Rr.Sg}{ov ov':Value}{css:List (List Value)}(hq:Rr.seqV V (a.drop (nk.length+1)) g1=some (nr,g'))(hR:Rc wr L rb pb lb fuel lc P cv av nv qv ev g)(h0:Kr rb lb ev0 ev w wr)(hr1:RS w1 L rb pb lb fuel lc ev1 g1)(hk1:Kr rb lb ev ev1 wr w1)(hlt:∀k,ov.ownBlock=some k→w.heap.size≤k∧k<wr.heap.size)(hne:∀b,ov.ownBlock=some b→some b≠ev.ownBlock)(hcl:css.length=nk.length)(h3:∀i (h:i<nk.length) (h':i<css.length),ElI w1 (SB w.heap.size ov) nk[i] css[i])
 (h2:w2.ownsRow w.heap.size 3 1 ov' (nk.length+1) (css.flatten++[.int .i64 n])) (hg:(w1.alloc (.cells #[.int .i64 n] 3)).grownBy w2 ov.ownBlock) (hv:ov'.ownBlock=ov.ownBlock∨ov'.ownBlock=some (w1.heap.size+1)) (hw:w.heap.size≤wr.heap.size) (hrl:rb<w.heap.size) (hll:lb<w.heap.size) (hpl:pb<w.heap.size) (hL:L≤w.heap.size):
 VsI L rb pb lb fuel lc P cv av nv qv V w w2 ev0 a ((nk++[n])++nr) g' (nk.length+1) ov':=by
 have hs1:=hk1.kp.size
 have hs2:w1.heap.size+1≤w2.heap.size:=by have:=hg.size;simpa using this
 have hne1:∀b,ov.ownBlock=some b→some b≠ev1.ownBlock:=fun b e e'=>by
  rcases hk1.ev b e'.symm with h | h
  ·exact hne b e h.symm
  ·have:=(hlt b e).2;omega
 have hsame:∀b,b<w1.heap.size→ov.ownBlock≠some b→w2.heap[b]? =w1.heap[b]? :=fun b hb e=>(hg.block b (by simp;omega) (fun h=>e h.symm)).trans (heap_alloc_old w1 _ hb)
 have hr2:RS w2 L rb pb lb fuel lc ev1 g1:=hr1.same fun b hb=>by
  have hb1:b<w1.heap.size:=by
   rcases hb with h | h | h | h
   ·omega
   ·omega
   ·omega
   ·exact(hr1.evl b h).2
  refine hsame b hb1 fun e=> ?_
  rcases hb with h | h | h | h
  ·have:=(hlt b e).1;omega
  ·have:=(hlt b e).1;omega
  ·have:=(hlt b e).1;omega
  ·exact hne1 b e h.symm
 have hc1:=hR.next hr1 hk1
 refine⟨ev1,g1,nk++[n],nr,rfl,by simp,hq,?_,?_,?_,?_⟩
 ·refine⟨hr2,hc1.pm.keeps ⟨by omega,fun b hb hl=>hsame b hl fun e=> ?_⟩,hc1.lev.keeps (by omega) fun b hb=>hsame b (by omega) fun e=> ?_,by omega⟩
  ·have:=(hlt b e).1
   rcases hb with h | h<;>omega
  ·have:=(hlt b e).1
   omega
 ·exact(h0.trans hk1).grow ⟨hg.os,hg.tape,hg.output⟩ (by omega) fun b hb=>hsame b (by omega) fun e=>by have:=(hlt b e).1;omega
 ·exact OwnL.add isElI (w:=wr) (w1:=w1.alloc (.cells #[.int .i64 n] 3)) (fun k e=>(hlt k e).2) hcl (fun i h h'=>h3 i h h') rfl hw h2 hg (by simpa using hv)
 ·intro b e e'
  rcases hv with h | h
  ·exact hne1 b (h▸e) e'
  ·rw[h] at e
   cases e
   have:=(hr1.evl _ e'.symm).2
   omega
theorem valuesC {L rb pb lb fuel lc:Nat}{P:Prg}{cv av nv qv:Value}{V:Nat→Rr.Env→Tr→Rr.Sg→Option (Int×Rr.Sg)}(hV:ValC L rb pb lb fuel lc P cv av nv qv V){w:World}{deep fb:Nat}{X:Nat→Prop}{vo:Option Addr}{vc:Nat}{nbs:List Nat}{env:Rr.Env}{back:Int}{ev:Value}{g g':Rr.Sg}{a:List Tr}{ns:List Int}{ao:Option Addr}{b off c:Nat}{css:List (List Value)}
 (hR:Rc w L rb pb lb fuel lc P cv av nv qv ev g) (hF:Rf w fb rb deep X vo vc nbs env back) (hA:Ap X L rb lb pb ev) (hr:RowAt w (fun b=>b<L) 7 ao b off css.length c css) (hc:css.length=a.length) (hk:∀i (h:i<a.length) (h':i<css.length),TrIs w (fun b=>b<L) a[i] css[i]) (hn:a.length≤1000) (hq:Rr.seqV (V deep env) a g=some (ns,g')):
 Calls Tryz.prog 129 #[.pointer (some ⟨fb,0,none⟩),.slice ao css.length c] w fun r w'=>∃ov,r=.returned ov∧OwnL ElI w' w.heap.size 3 1 ov ns∧∃ev',RS w' L rb pb lb fuel lc ev' g'∧Kr rb lb ev ev' w w':=by
 obtain⟨m,hm⟩:∃m,m=css.length:=⟨_,rfl⟩
 rw[←hm]
 have HM:=hidq hm
 have HV:=hidq hV
 have HF:=hidq hF
 have HA:=hidq hA
 have HROW:=hidq hr
 have HC:=hidq hc
 have HK:=hidq hk
 have HR:=hidq hR
 have hm1:m≤1000:=by omega
 have hlf:=lt_of_block hF.blk
 obtain⟨i0,hi0,hz0,hz1,hz2⟩:=info_parts Tryz.infoI
 have HS:Hid (VsI L rb pb lb fuel lc P cv av nv qv (V deep env) w w ev a ns g' 0 (.slice none 0 0)):=⟨ev,g,[],ns,rfl,rfl,hq,hR,Kr.refl _ _ _ _,OwnL.nil _ _ _ _ _,fun b e=>by cases e⟩
 clear hR hF hA hr hc hk hq hV hm hn
 go_enter Tryz.func129,Tryz.ntmps129
 go_wp2
 go_loopw [9,5] (fun i o wr=>∃k:Nat,k≤m∧i=.int .i64 k∧(∃oo oc,o=.slice oo k oc)∧Hid (VsI L rb pb lb fuel lc P cv av nv qv (V deep env) w wr ev a ns g' k o)) (fun i _ _=>m - (intOf i).toNat)
 case atStart=>exact⟨0,Nat.zero_le _,rfl,⟨_,_,rfl⟩,HS⟩
 case round=>
  clear HS
  obtain⟨k,hk,rfl,⟨oo,oc,rfl⟩,HI⟩:=hrel
  obtain⟨evk,gk,nk,nr,hns,hnk,hsq,hRc,hKr,hO,hne⟩:=HI.out
  by_cases hlt:k<m
  ·have hka:k<a.length:=by have:=HM.out;have:=HC.out;omega
   have hkc:k<css.length:=by have:=HM.out;omega
   rw[List.drop_eq_getElem_cons hka] at hsq
   unfold Rr.seqV at hsq
   obtain⟨⟨n,g1⟩,hv,hsq⟩:=Option.bind_eq_some_iff.1 hsq
   obtain⟨⟨nr',g2⟩,hs',hsq⟩:=Option.bind_eq_some_iff.1 hsq
   simp only[Option.some.injEq,Prod.mk.injEq] at hsq
   obtain⟨rfl,rfl⟩:=hsq
   have hcall:=HV.out wr deep fb X vo vc nbs env back evk gk g1 a[k] b (off+k*7) css[k] n hRc (HF.out.next HA.out hKr) (HA.out.next (fun b hb=>(HF.out.up b hb).2) hKr) ((HROW.out.at hkc).next HR.out.rs.rl HR.out.rs.ll (fun k e=>(HR.out.rs.evl k e).1) hKr) ((HK.out k hka hkc).keeps ⟨hKr.kp.size,fun _ hb hl=>hKr.low HR.out.rs.rl HR.out.rs.ll (fun k e=>(HR.out.rs.evl k e).1) hb hl⟩) hv
   have hadr:=HROW.out.adr (by omega)
   have hbl:b<wr.heap.size:=Nat.lt_of_lt_of_le (HROW.out.lt (by omega)) hKr.kp.size
   obtain⟨cs2,ho1,ho2,ho3⟩:=hO.ex
   have HST:Hid (∀(w1 w2:World) (ev1 u':Value),RS w1 L rb pb lb fuel lc ev1 g1→Kr rb lb evk ev1 wr w1→w2.ownsRow w.heap.size 3 1 u' (nk.length+1) (cs2.flatten++[.int .i64 n])→(w1.alloc (.cells #[.int .i64 n] 3)).grownBy w2 (.slice oo k oc:Value).ownBlock→(u'.ownBlock=(.slice oo k oc:Value).ownBlock∨u'.ownBlock=some (w1.heap.size+1))→VsI L rb pb lb fuel lc P cv av nv qv (V deep env) w w2 ev a ns g2 (k+1) u'):=fun w1 w2 ev1 u' q1 q2 q3 q4 q5=>by
    have:=VsI.step (V:=V deep env) (a:=a) (nr:=nr') (n:=n) (by rw[hnk];exact hs') hRc hKr q1 q2 ho1.lt hne ho2 (fun i h h'=>ho3 i h h') q3 q4 q5 hKr.kp.size (lt_of_block HR.out.rs.blk) (by obtain⟨C,h1,_⟩:=HR.out.rs.lef;exact lt_of_block h1) (lt_of_block HR.out.pm.blk) HR.out.sz
    rw[hnk] at this
    rw[hns]
    simpa using this
   have HOW:Hid (∀w1 ev1,Kr rb lb evk ev1 wr w1→w1.ownsRow w.heap.size 3 1 (.slice oo k oc) k cs2.flatten):=fun w1 ev1 q=>own_kept2 (by rw[←hnk];rw[hnk];rw[hnk] at ho1;exact ho1) fun k' e=>by
    have h1:=ho1.lt k' e
    have h2:=lt_of_block HR.out.rs.blk
    obtain⟨C,h3,_⟩:=HR.out.rs.lef
    have h4:=lt_of_block h3
    exact q.kp.block k' ⟨by omega,by omega,hne k' e⟩ h1.2
   have HNK:=hidq hnk
   have HSW:=hidq hKr.kp.size
   have hlw:fb<wr.heap.size:=Nat.lt_of_lt_of_le hlf hKr.kp.size
   clear hns hnk hRc hKr hO hne hv hs' ho1 ho2 ho3 HI
   subst hadr
   go_wp2_with fail
   refine hcall.mono ?_
   rintro x w1 ⟨rfl,ev1,hr1,hk1⟩
   have HP:=hidq (HOW.out w1 ev1 hk1)
   have HR1:=hidq hr1
   have HK1:=hidq hk1
   clear hr1 hk1 hcall
   go_wp2_with (at_builtin;refine wpList_append_own_at _ rfl _ _ 48 rfl w.heap.size 3 i0 (.int .i64 0) 1 8 Tryz.underlying48 hi0 hz0 hz1 hz2 rfl (by decide) _ _ _ rfl (World.ownsRow.alloc HP.out _) ⟨w1.heap.size,0,none⟩ 1 1 [.int .i64 n] rfl rfl ?c1 ?c2 ?c3 ?c4 ?c5 ?_)
   case c1=>exact World.news_of_block (heap_at_alloc w1 (.cells #[.int .i64 n] 3) _ rfl)
   case c2=>exact isElI.one (w:=w1) (S:=fun _=>True) (a:=n) rfl
   case c3=>unfold maxLen;omega
   case c4=>omega
   case c5=>have:=HSW.out;have:=HK1.out.kp.size;simp;omega
   ·intro u' w2 hown2 hgrow2 _ hat2
    have HN:=hidq (HST.out w1 w2 ev1 u' HR1.out HK1.out (by rw[HNK.out];exact hown2) hgrow2 (by simpa using hat2))
    obtain⟨oo',oc',hu'⟩:∃oo oc,u'=.slice oo (k+1) oc:=by
     rcases hown2.2 with⟨h1,h2⟩|⟨g,cap,cur,h1,_⟩
     ·omega
     ·exact⟨_,_,h1⟩
    subst hu'
    clear hown2 hgrow2 hat2
    go_wp2
    go_roundw
    case rel=>exact⟨k+1,by omega,by go_num,⟨_,_,rfl⟩,HN⟩
    case measure=>simp[intOf];omega
  ·obtain rfl:k=m:=by omega
   have hnr:nr=[]∧gk=g':=by
    rw[List.drop_of_length_le (by have:=HM.out;have:=HC.out;omega)] at hsq
    unfold Rr.seqV at hsq
    simp only[Option.some.injEq,Prod.mk.injEq] at hsq
    exact⟨hsq.1.symm,hsq.2⟩
   obtain⟨rfl,rfl⟩:=hnr
   rw[List.append_nil] at hns
   subst hns
   have HO:=hidq hO
   have HRK:=hidq (And.intro hRc.rs hKr)
   clear hRc hKr hO hne hsq HI hnk
   go_wp2
   go_ret
   exact⟨_,rfl,HO.out,_,HRK.out.1,HRK.out.2⟩
theorem two_of {w:World}{B:Nat}{ov:Value}{c d:Int}(h:OwnL ElI w B 3 1 ov [c,d]):∃gb cap,ov=.slice (some ⟨gb,0,none⟩) 2 cap∧w.cell? ⟨gb,0,none⟩=some (.int .i64 c)∧w.cell? ⟨gb,1,none⟩=some (.int .i64 d)∧gb<w.heap.size:=by
 obtain⟨css,h1,h2,h3⟩:=h.ex
 have e0:css[0]? =some [.int .i64 c]:=by rw[List.getElem?_eq_getElem (by rw[h2];simp)];exact congrArg some (h3 0 (by simp) (by rw[h2];simp))
 have e1:css[1]? =some [.int .i64 d]:=by rw[List.getElem?_eq_getElem (by rw[h2];simp)];exact congrArg some (h3 1 (by simp) (by rw[h2];simp))
 have hcs:css=[[.int .i64 c],[.int .i64 d]]:=by
  match css,h2 with
  |[x,y],_=>simp at e0 e1;rw[e0,e1]
 rw[hcs] at h1
 rcases h1.2 with⟨_,h4⟩|⟨gb,cap,cur,rfl,_,hg,_⟩
 ·cases h4
 ·exact⟨gb,cap,rfl,(h1.cellAt 0 (by simp)).trans rfl,(h1.cellAt 1 (by simp)).trans rfl,lt_of_block hg⟩
theorem opC {L rb pb lb fuel lc:Nat}{P:Prg}{cv av nv qv:Value}{V:Nat→Rr.Env→Tr→Rr.Sg→Option (Int×Rr.Sg)}(hV:ValC L rb pb lb fuel lc P cv av nv qv V){w:World}{deep fb:Nat}{X:Nat→Prop}{vo:Option Addr}{vc:Nat}{nbs:List Nat}{env:Rr.Env}{back:Int}{ev:Value}{g g':Rr.Sg}{k p n t:Int}{s:ByteArray}{l:List Po}{a:List Tr}{c d m:Int}{b off:Nat}{cs:List Value}
 (hR:Rc w L rb pb lb fuel lc P cv av nv qv ev g) (hF:Rf w fb rb deep X vo vc nbs env back) (hA:Ap X L rb lb pb ev) (hat:At w (fun b=>b<L) b off cs) (htr:TrIs w (fun b=>b<L) (.mk k p n t s l a) cs) (hq:Rr.seqV (V deep env) a g=some ([c,d],g')) (hn:a.length≤1000) (hm:Rr.reck s.data.toList c d=some m):
 Calls Tryz.prog 128 #[.pointer (some ⟨fb,0,none⟩),.pointer (some ⟨b,off,none⟩)] w fun r w'=>r=.returned (.int .i64 m)∧∃ev',RS w' L rb pb lb fuel lc ev' g'∧Kr rb lb ev ev' w w':=by
 cases htr with
 | mk hs hl hr hc hk=>
  rename_i lv xv css
  obtain⟨ao,rb',roff,rc,rfl,hrow⟩:=hr
  have hv:=valuesC hV hR hF hA hrow hc hk hn hq
  have z6:=hat.cell 6 _ rfl
  have hbl:=hat.lt
  have z4:w.cell? ⟨b,off+4,none⟩=some (.string s):=hat.cell 4 _ rfl
  have hflt:=lt_of_block hF.blk
  have HNX:Hid (∀w' ev',RS w' L rb pb lb fuel lc ev' g'→Kr rb lb ev ev' w w'→w'.cell? ⟨b,off+4,none⟩=some (.string s)∧b<w'.heap.size∧LevAt w' L):=fun w' ev' q1 q2=>by
   have h1:=hat.next hR.rs.rl hR.rs.ll (fun k e=>(hR.rs.evl k e).1) q2
   exact⟨h1.cell 4 _ rfl,h1.lt,(hR.next q1 q2).lev⟩
  have HM:=hidq hm
  obtain⟨n0,hn0⟩:∃n,n=css.length:=⟨_,rfl⟩
  rw[←hn0] at hv z6
  clear hR hF hA hat hrow hl hc hk hq hV hn hn0 hm
  go_enter Tryz.func128,Tryz.ntmps128
  go_wp2_with fail
  refine hv.mono ?_
  rintro x w1 ⟨ov,rfl,ho,ev1,hr1,hk1⟩
  obtain⟨gb,cap,rfl,y0,y1,hgl⟩:=two_of ho
  obtain⟨t4,tl,hlev⟩:=HNX.out w1 ev1 hr1 hk1
  have HL:=hidq hlev
  have HRK:=hidq (And.intro hr1 hk1)
  have HRE:Hid (∀W:World,W.heap=w1.heap→Calls Tryz.prog 4 #[.string s,.int .i64 c,.int .i64 d] W fun x w'=>x=.returned (.tuple #[.int .i64 m,.int .i64 0])∧w'=W):=fun W hW=>by
   have h:=reckC (w:=W) (lim:=L) (hlev.keeps (by rw[hW];exact Nat.le_refl _) fun _ _=>by rw[hW]) s.data.toList c d
   rw[HM.out,show ba s.data.toList=s from rfl] at h
   exact h
  clear ho hr1 hk1 hlev hv z6 z4 hbl
  go_wp2
  go_quiet ((go_at_call 4;exact Calls.quiet_of_same (HRE.out _ rfl)))
  go_wp2
  go_ret
  exact⟨rfl,ev1,HRK.out.1.drew _,HRK.out.2.trans (Kr.drew _ _ _ _ _)⟩
structure Kf (X X':Nat→Prop)(rb lb:Nat)(ev ev':Value)(w w':World):Prop where
 kp:Keeps (fun b=>b≠rb∧b≠lb∧some b≠ev.ownBlock∧¬X b) w w'
 ev:∀k,ev'.ownBlock=some k→ev.ownBlock=some k∨w.heap.size≤k
 xs:∀b,X' b→X b∨w.heap.size≤b
 sm:Sm w w'
theorem Kf.of {X:Nat→Prop}{rb lb:Nat}{ev ev':Value}{w w':World}(h:Kr rb lb ev ev' w w'):Kf X X rb lb ev ev' w w':=⟨⟨h.kp.size,fun b hb=>h.kp.block b ⟨hb.1,hb.2.1,hb.2.2.1⟩⟩,h.ev,fun _ h=>.inl h,h.sm⟩
theorem Kf.trans {X0 X1 X2:Nat→Prop}{rb lb:Nat}{e0 e1 e2:Value}{w0 w1 w2:World}(h:Kf X0 X1 rb lb e0 e1 w0 w1)(g:Kf X1 X2 rb lb e1 e2 w1 w2):Kf X0 X2 rb lb e0 e2 w0 w2:=by
 refine⟨⟨Nat.le_trans h.kp.size g.kp.size,fun b hb hl=> ?_⟩,fun k hk=> ?_,fun b hb=> ?_,h.sm.trans g.sm⟩
 ·rw[←h.kp.block b hb hl]
  refine g.kp.block b ⟨hb.1,hb.2.1,fun e=> ?_,fun e=> ?_⟩ (Nat.lt_of_lt_of_le hl h.kp.size)
  ·rcases h.ev b e.symm with e' | e'
   ·exact hb.2.2.1 e'.symm
   ·omega
  ·rcases h.xs b e with e' | e'
   ·exact hb.2.2.2 e'
   ·omega
 ·rcases g.ev k hk with e | e
  ·exact h.ev k e
  ·exact .inr (Nat.le_trans h.kp.size e)
 ·rcases g.xs b hb with e | e
  ·exact h.xs b e
  ·exact .inr (Nat.le_trans h.kp.size e)
def FrP (L rb pb lb fuel lc fb deep:Nat)(X:Nat→Prop)(ev:Value)(w:World)(env':Rr.Env)(back':Int)(g':Rr.Sg)(w':World):Prop:=
 ∃X' vo' vc' nbs' ev',RS w' L rb pb lb fuel lc ev' g'∧Rf w' fb rb deep X' vo' vc' nbs' env' back'∧Ap X' L rb lb pb ev'∧Kf X X' rb lb ev ev' w w'
theorem Rf.add {w w1 w2:World}{fb rb deep:Nat}{X:Nat→Prop}{vo:Option Addr}{vc:Nat}{nbs:List Nat}{env:Rr.Env}{back:Int}(h:Rf w fb rb deep X vo vc nbs env back)(hf:env.length<1000){s:ByteArray}{n:Int}{nb:Nat}{css:List (List Value)}(hb:Below w.heap.size w w1)(hnb:w1.heap[nb]? =some (.cells #[.int .i64 n] 3 (0,0)))(hnw:w.heap.size≤nb)(hcl:css.length=((env.map (·.1)).zip nbs).length)(h3:∀i (h:i<((env.map (·.1)).zip nbs).length) (h':i<css.length),VrIs w (SB (fb+1) (.slice vo env.length vc)) ((env.map (·.1)).zip nbs)[i] css[i])
 {vo':Option Addr} {vc':Nat} (h2:w2.ownsRow (fb+1) 92 3 (.slice vo' (env.length+1) vc') (env.length+1) (css.flatten++varC s nb)) (hg:w1.grownBy w2 (.slice vo env.length vc:Value).ownBlock) (hv:(.slice vo' (env.length+1) vc':Value).ownBlock=(.slice vo env.length vc:Value).ownBlock∨(.slice vo' (env.length+1) vc':Value).ownBlock=some w1.heap.size):
 Rf (w2.setCell ⟨fb,2,none⟩ (.slice vo' (env.length+1) vc')) fb rb deep (fun b=>X b∨(w.heap.size≤b∧b<w2.heap.size)) vo' vc' (nbs++[nb]) (env++[(s,n)]) back:=by
 have hlen:((env.map (·.1)).zip nbs).length=env.length:=by simp[h.len]
 have hfl:=lt_of_block h.blk
 have hs1:=hb.size
 have hs2:=hg.size
 have hnl:=lt_of_block hnb
 have hset:∀b,b≠fb→(w2.setCell ⟨fb,2,none⟩ (.slice vo' (env.length+1) vc')).heap[b]? =w2.heap[b]? :=fun b e=>Below.heap_setCell _ _ _ _ e
 have hk:∀b,b<w.heap.size→some b≠(.slice vo env.length vc:Value).ownBlock→w2.heap[b]? =w.heap[b]? :=fun b e1 e2=>(hg.block b (by omega) e2).trans (hb.block b e1)
 have hfo:some fb≠(.slice vo env.length vc:Value).ownBlock:=fun e=>by
  obtain⟨css',j1,_⟩:=h.own.ex
  have:=(j1.lt fb e.symm).1
  omega
 have hfo':∀k,(.slice vo' (env.length+1) vc':Value).ownBlock=some k→fb<k∧k<w2.heap.size:=fun k e=>by
  have:=h2.lt k e
  omega
 have hold:∀k,(.slice vo env.length vc:Value).ownBlock=some k→k<w.heap.size:=fun k e=>(h.up k (h.xo k e)).2
 refine⟨?_,?_,by simp[h.len],fun i hi hi'=> ?_,?_,fun m hm=> ?_,.inl h.xf,fun k e=> ?_,fun b hb'=> ?_,by simp;omega⟩
 ·have:=(hk fb hfl hfo).trans h.blk
  simp[World.setCell,Array.getElem?_modify,this]
 ·have hz:((env++[(s,n)]).map (·.1)).zip (nbs++[nb])=(env.map (·.1)).zip nbs++[(s,nb)]:=by
   rw[List.map_append,List.zip_append (by simp[h.len])]
   rfl
  rw[hz]
  obtain⟨css',j1,j2,j3⟩:=OwnL.add (w:=w) (w1:=w1) (a:=(s,nb)) (xs:=varC s nb) (v':=.slice vo' (env.length+1) vc') isElVr hold hcl (fun i q q'=>h3 i q q') rfl hfl (by rw[hlen];exact h2) hg hv
  simp only[List.length_append,List.length_cons,List.length_nil]
  exact⟨css',ownsRow_setCell_other j1 (a:=⟨fb,2,none⟩) (fun e=>by have:=(hfo' fb e).1;omega) _,j2,j3⟩
 ·by_cases hlt:i<env.length
  ·have hin:i<nbs.length:=by rw[h.len];exact hlt
   have e:=h.box i hlt hin
   have hx:=h.nb _ (List.getElem_mem hin)
   simp only[List.getElem_append_left hlt,List.getElem_append_left hin]
   rw[hset _ hx.2.1,hk _ (lt_of_block e) hx.2.2]
   exact e
  ·have hie:i=env.length:=by simp at hi;omega
   subst hie
   have e1:(nbs++[nb])[env.length]'hi'=nb:=by
    rw[List.getElem_append_right (by rw[h.len];exact Nat.le_refl _)]
    simp[h.len]
   have e2:(env++[(s,n)])[env.length]'hi=(s,n):=by
    rw[List.getElem_append_right (Nat.le_refl _)]
    simp
   rw[e1,e2,hset _ (by omega),hg.block nb hnl (fun e=>by have:=hold nb e.symm;omega)]
   exact hnb
 ·rw[List.nodup_append]
  refine⟨h.nd,by simp,fun a ha b hb' e=> ?_⟩
  simp at hb'
  have:=(h.up a (h.nb a ha).1).2
  omega
 ·rw[List.mem_append,List.mem_singleton] at hm
  rcases hm with hm | rfl
  ·have hx:=h.nb m hm
   refine⟨.inl hx.1,hx.2.1,fun e=> ?_⟩
   rw[List.length_append] at e
   rcases hv with hv | hv
   ·exact hx.2.2 (e.trans hv)
   ·have e':=e.trans hv
    cases e'
    have:=(h.up _ hx.1).2
    omega
  ·refine⟨.inr ⟨hnw,by omega⟩,by omega,fun e=> ?_⟩
   rw[List.length_append] at e
   rcases hv with hv | hv
   ·have:=hold m (e.trans hv).symm
    omega
   ·have e':=e.trans hv
    cases e'
    omega
 ·rw[List.length_append] at e
  rcases hv with hv | hv
  ·exact .inl (h.xo k (hv.symm.trans e))
  ·have e':=hv.symm.trans e
   cases e'
   have:=(hfo' _ e).2
   exact .inr ⟨hs1,this⟩
 ·have hz:(w2.setCell ⟨fb,2,none⟩ (.slice vo' (env.length+1) vc')).heap.size=w2.heap.size:=by simp[World.setCell]
  rw[hz]
  rcases hb' with hb' | hb'
  ·have:=h.up b hb'
   omega
  ·omega
theorem putE_first {env env':Rr.Env}{s:ByteArray}{n:Int}(h:Rr.putE env s n=some env'):∃i,∃hi:i<env.length,env[i].1=s∧env'=env.set i (env[i].1,n)∧∀j (hj:j<i),env[j].1≠s:=by
 induction env generalizing env' with
 | nil=>cases h
 | cons x l ih=>
  unfold Rr.putE at h
  split at h
  ·rename_i e
   cases h
   exact⟨0,by simp,e,rfl,fun j hj=>by omega⟩
  ·rename_i e
   obtain⟨l',h1,rfl⟩:=Option.map_eq_some_iff.1 h
   obtain⟨i,hi,h2,rfl,h3⟩:=ih h1
   refine⟨i+1,by simp;omega,h2,rfl,fun j hj=> ?_⟩
   cases j with
   | zero=>exact e
   | succ j=>exact h3 j (by omega)
theorem nd_ne {l:List Nat}(h:l.Nodup){i j:Nat}(hi:i<l.length)(hj:j<l.length)(e:i≠j):l[i]≠l[j]:=by
 have hp:=List.pairwise_iff_getElem.1 h
 rcases Nat.lt_or_gt_of_ne e with h1 | h1
 ·exact hp i j hi hj h1
 ·exact(hp j i hj hi h1).symm
theorem Rf.put {w:World}{fb rb deep:Nat}{X:Nat→Prop}{vo:Option Addr}{vc:Nat}{nbs:List Nat}{env:Rr.Env}{back:Int}(h:Rf w fb rb deep X vo vc nbs env back){i:Nat}(hi:i<env.length)(hi':i<nbs.length)(n:Int):Rf (w.setCell ⟨nbs[i],0,none⟩ (.int .i64 n)) fb rb deep X vo vc nbs (env.set i (env[i].1,n)) back:=by
 have hset:∀b,b≠nbs[i]→(w.setCell ⟨nbs[i],0,none⟩ (.int .i64 n)).heap[b]? =w.heap[b]? :=fun b e=>Below.heap_setCell _ _ _ _ e
 have hx:=h.nb _ (List.getElem_mem hi')
 have hmap:(env.set i (env[i].1,n)).map (·.1)=env.map (·.1):=by
  rw[List.map_set]
  have:env[i].1=(env.map (·.1))[i]'(by simpa using hi):=by simp
  rw[this,List.set_getElem_self]
 have hz:(w.setCell ⟨nbs[i],0,none⟩ (.int .i64 n)).heap.size=w.heap.size:=by simp[World.setCell]
 refine⟨?_,?_,by simpa using h.len,fun j hj hj'=> ?_,h.nd,?_,h.xf,?_,fun b hb=>by rw[hz];exact h.up b hb,by simpa using h.few⟩
 ·rw[hset fb (Ne.symm hx.2.1),List.length_set]
  exact h.blk
 ·rw[hmap,List.length_set]
  obtain⟨css,h1,h2,h3⟩:=h.own.ex
  exact⟨css,own_kept2 h1 fun k e=>hset k fun e'=>hx.2.2 (by rw[←e',e]),h2,h3⟩
 ·simp at hj
  have hb:=h.box j hj hj'
  by_cases e:i=j
  ·subst e
   simp only[List.getElem_set_self]
   exact one_setCell hb
  ·simp only[List.getElem_set_ne e]
   rw[hset _ (nd_ne h.nd hj' hi' (Ne.symm e))]
   exact hb
 ·rw[List.length_set]
  exact h.nb
 ·rw[List.length_set]
  exact h.xo
theorem Rf.back {w:World}{fb rb deep:Nat}{X:Nat→Prop}{vo:Option Addr}{vc:Nat}{nbs:List Nat}{env:Rr.Env}{back:Int}(h:Rf w fb rb deep X vo vc nbs env back)(m:Int):Rf (w.setCell ⟨fb,3,none⟩ (.int .i64 m)) fb rb deep X vo vc nbs env m:=by
 have hset:∀b,b≠fb→(w.setCell ⟨fb,3,none⟩ (.int .i64 m)).heap[b]? =w.heap[b]? :=fun b e=>Below.heap_setCell _ _ _ _ e
 have hz:(w.setCell ⟨fb,3,none⟩ (.int .i64 m)).heap.size=w.heap.size:=by simp[World.setCell]
 refine⟨?_,?_,h.len,fun j hj hj'=> ?_,h.nd,h.nb,h.xf,h.xo,fun b hb=>by rw[hz];exact h.up b hb,h.few⟩
 ·have:=h.blk
  simp[World.setCell,Array.getElem?_modify,this]
 ·obtain⟨css,h1,h2,h3⟩:=h.own.ex
  exact⟨css,own_kept2 h1 fun k e=>hset k fun e'=>by have:=(h1.lt k e).1;omega,h2,h3⟩
 ·rw[hset _ (h.nb _ (List.getElem_mem hj')).2.1]
  exact h.box j hj hj'
theorem own_cut {w:World}{B e sz n k:Nat}{vo:Option Addr}{vc:Nat}{xs:List Value}(h:w.ownsRow B e sz (.slice vo n vc) n xs)(hk:k≤n):w.ownsRow B e sz (.slice vo k vc) k (xs.take (k*sz)):=by
 have hks:k*sz≤n*sz:=Nat.mul_le_mul_right _ hk
 refine⟨by rw[List.length_take,h.1];omega,?_⟩
 rcases h.2 with⟨h1,h2⟩|⟨g,cap,cur,h1,h2,h3,h4,h5,h6,h7⟩
 ·cases h1
  exact .inl ⟨by rw[show k=0 by omega],by omega⟩
 ·cases h1
  exact .inr ⟨g,vc,cur,rfl,h2,h3,by omega,h5,h6,by rw[←h7,List.take_take,Nat.min_eq_left hks]⟩
theorem flat_take {sz:Nat}{css:List (List Value)}(h:∀i (h:i<css.length),css[i].length=sz)(k:Nat):css.flatten.take (k*sz)=(css.take k).flatten:=by
 induction css generalizing k with
 | nil=>simp
 | cons x l ih=>
  cases k with
  | zero=>simp
  | succ k=>
   have hx:x.length=sz:=h 0 (by simp)
   rw[List.flatten_cons,List.take_succ_cons,List.flatten_cons,Nat.succ_mul,Nat.add_comm,List.take_append,hx,Nat.add_sub_cancel_left,ih (fun i hi=>h (i+1) (by simp;omega)),List.take_of_length_le (by omega)]
theorem Rf.cut {w:World}{fb rb deep:Nat}{X:Nat→Prop}{vo:Option Addr}{vc:Nat}{nbs:List Nat}{env:Rr.Env}{back:Int}(h:Rf w fb rb deep X vo vc nbs env back){k:Nat}(hk:k≤env.length):Rf (w.setCell ⟨fb,2,none⟩ (.slice vo k vc)) fb rb deep X vo vc (nbs.take k) (env.take k) back:=by
 have hset:∀b,b≠fb→(w.setCell ⟨fb,2,none⟩ (.slice vo k vc)).heap[b]? =w.heap[b]? :=fun b e=>Below.heap_setCell _ _ _ _ e
 have hz:(w.setCell ⟨fb,2,none⟩ (.slice vo k vc)).heap.size=w.heap.size:=by simp[World.setCell]
 have hle:(env.take k).length=k:=by simp;omega
 have hob:(.slice vo k vc:Value).ownBlock=(.slice vo env.length vc:Value).ownBlock:=by cases vo<;>rfl
 refine⟨?_,?_,by simp[h.len],fun j hj hj'=> ?_,h.nd.sublist (List.take_sublist _ _),fun m hm=> ?_,h.xf,?_,fun b hb=>by rw[hz];exact h.up b hb,by have:=h.few;simp;omega⟩
 ·rw[hle]
  have:=h.blk
  simp[World.setCell,Array.getElem?_modify,this]
 ·rw[hle,List.map_take,show((env.map (·.1)).take k).zip (nbs.take k)=((env.map (·.1)).zip nbs).take k from(List.take_zipWith ..).symm]
  obtain⟨css,h1,h2,h3⟩:=h.own.ex
  have hl:((env.map (·.1)).zip nbs).length=env.length:=by simp[h.len]
  rw[hl] at h1
  refine⟨css.take k,?_,by simp[h2],fun i q q'=> ?_⟩
  ·have h4:=own_cut h1 hk
   rw[flat_take (sz:=3) (fun i hi=>isElVr.len (h3 i (by rw[←h2];exact hi) hi))] at h4
   have hl2:(((env.map (·.1)).zip nbs).take k).length=k:=by rw[List.length_take,hl];omega
   rw[hl2]
   exact own_kept2 h4 fun b e=>hset b fun e'=>by have:=(h4.lt b e).1;omega
  ·have:=h3 i (by simp at q;omega) (by simp at q';omega)
   unfold VrIs at this⊢
   simpa using this
 ·simp at hj hj'
  simp only[List.getElem_take]
  have hjn:j<nbs.length:=by omega
  rw[hset _ (h.nb _ (List.getElem_mem hjn)).2.1]
  exact h.box j (by omega) hjn
 ·rw[hle,hob]
  exact h.nb m (List.mem_of_mem_take hm)
 ·rw[hle,hob]
  exact h.xo
def StK (w0:World)(L kb pb:Nat)(P:Prg)(F:Int→Sk.Vs→Bool→Stm→Option (Sk.Vs×Bool))(c:Nat):Prop:=
 ∀(w:World) (X:Nat→Prop) (vs vk:Sk.Vs) (f:Nat) (u:Bool) (N b off:Nat) (s:Stm) (back:Int) (r:Sk.Vs×Bool),Lk w0 w L kb pb X P vs vk f u N→AtS w0 L b off s→F back vs u s=some r→N+c<1000000000→
  Calls Tryz.prog 126 #[.pointer (some ⟨kb,0,none⟩),.pointer (some ⟨b,off,none⟩),.int .i64 back] w fun x w'=>x=.returned (.tuple #[])∧LkP w0 w L kb pb X P r.1 f r.2 (N+c) w'
theorem LkE.inner {w0 w w3:World}{L kb pb:Nat}{X:Nat→Prop}{P:Prg}{vs vk:Sk.Vs}{f:Nat}{N:Nat}{vo:Option Addr}{vc mk ma mr:Nat}{K:List KE}(h:LkE w0 w L kb pb X P vs vk f false N vo vc mk ma mr K)(hw:w3=((w.setCell ⟨kb,3,none⟩ (.int .i64 ((vs.length:Nat):Int))).setCell ⟨kb,4,none⟩ (.map (some w.heap.size))).alloc (.map #[] 0)):LkE w0 w3 L kb pb (fun b=>(X b∧b≠ma∧b≠mr)∨b=w.heap.size) P vs vk vs.length true 0 vo vc mk w.heap.size mr K∧(∀b,b<w.heap.size→b≠kb→w3.heap[b]? =w.heap[b]?)∧w3.heap.size=w.heap.size+1:=by
 have hkb:=h.up kb h.xk.1
 have hz:w3.heap.size=w.heap.size+1:=by rw[hw];simp[World.setCell]
 have hst:∀b,b<w.heap.size→b≠kb→w3.heap[b]? =w.heap[b]? :=fun b hb e=>by
  rw[hw,heap_alloc_old _ _ (by simp[World.setCell];exact hb)]
  exact(Below.heap_setCell _ _ _ _ e).trans (Below.heap_setCell _ _ _ _ e)
 have hsm:Sm w w3:=by rw[hw];exact⟨rfl,rfl,rfl⟩
 have hbel:Below L w0 w3:=⟨hsm.os.trans h.bel.os,hsm.tape.trans h.bel.tape,hsm.out.trans h.bel.output,by have:=h.bel.size;omega,fun k hk=>(hst k (by omega) (by omega)).trans (h.bel.block k hk)⟩
 obtain⟨css,h1,h2,h3⟩:=h.own.ex
 obtain⟨D,es,clock,ha1,_⟩:=h.asks
 obtain⟨hXr,c,hc⟩:=h.rt rfl
 obtain⟨⟨es2,clock2,hk1,_⟩,_⟩:=h.kn
 have hkbm:∀(b:Nat) (es:Array MapEntry) (c:Nat),w.heap[b]? =some (.map es c)→kb≠b:=fun b es c hm e=>by
  have:=h.blk
  rw[e,hm] at this
  cases this
 have hrow:∀k,(.slice vo vs.length vc:Value).ownBlock=some k→∀(es:Array MapEntry) (c:Nat),w.heap[k]? ≠some (.map es c):=fun k e es c hm=>by
  rcases h1.2 with⟨hv,_⟩|⟨g,cap,cur,hv,_,hgg,_⟩
  ·rw[hv] at e;cases e
  ·rw[hv] at e
   have e2:g=k:=by simpa[Value.ownBlock] using e
   rw[e2,hm] at hgg
   cases hgg
 refine⟨⟨hbel,?_,⟨css,own_kept2 h1 fun k e=>hst k (h1.lt k e).2 (h.xo k e).2,h2,h3⟩,h.kn.keeps (hst mk (h.up mk h.xk.2.1).2 (Ne.symm (hkbm mk _ _ hk1))) fun q hq=> ?_,h.ok,?_,⟨.inl ⟨h.xk.1,hkbm ma _ _ ha1,hkbm mr _ _ hc⟩,.inl ⟨h.xk.2.1,h.ne.1,h.ne.2.1⟩,.inr rfl⟩,fun k e=>⟨.inl ⟨(h.xo k e).1,fun e'=>hrow k e _ _ (e'▸ha1),fun e'=>hrow k e _ _ (e'▸hc)⟩,(h.xo k e).2⟩,⟨?_,h.ne.2.1,?_⟩,(fun e=>by cases e),fun b hb=> ?_,h.few,by have:=h.mrl;omega,h.mre⟩,hst,hz⟩
 ·rw[hw,heap_alloc_old _ _ (by simp[World.setCell];exact hkb.2)]
  simp[World.setCell,Array.getElem?_modify,h.blk]
 ·exact(hst _ (by have:=(h.ok q hq).1;omega) (by have:=(h.ok q hq).1;omega))
 ·have:=MapA.made ((w.setCell ⟨kb,3,none⟩ (.int .i64 ((vs.length:Nat):Int))).setCell ⟨kb,4,none⟩ (.map (some w.heap.size)))
  rw[←hw] at this
  simpa[World.setCell] using this
 ·have:=(h.up mk h.xk.2.1).2;omega
 ·have:=h.mrl;omega
 ·rcases hb with hb | rfl
  ·have:=h.up b hb.1;omega
  ·omega
theorem LkE.outer {w0 w w6:World}{L kb pb:Nat}{X:Nat→Prop}{P:Prg}{vs vsE vk:Sk.Vs}{f n N N1:Nat}{u:Bool}{vo:Option Addr}{vc mk ma1 ma mr:Nat}{K:List KE}(h:LkE w0 w L kb pb X P vsE vk n u N1 vo vc mk ma1 mr K)(hn:n=vs.length)(hle:n≤vsE.length)(hpre:vsE.take n=vs)(hma:MapA w ma N)(hnx:¬X ma)(hL:L≤ma)(hmr:∃es c,w.heap[mr]? =some (Obj.map es c))(hne:ma≠mr)
 (hblk:w6.heap[kb]? =some (.cells #[.pointer (some ⟨pb,0,none⟩),.slice vo n vc,.map (some mk),.int .i64 (f:Nat),.map (some ma),.map (some mr)] 167 (0,0))) (hst:∀b,b<w.heap.size→b≠kb→b≠mr→w6.heap[b]? =w.heap[b]?) (hz:w.heap.size≤w6.heap.size) (hbel:Below L w0 w6):
 LkE w0 w6 L kb pb (fun b=>(X b∧b≠ma1)∨b=ma) P vs vk f true N vo vc mk ma mr K∧MapA w6 ma1 N1∧¬((X ma1∧ma1≠ma1)∨ma1=ma):=by
 subst hn
 obtain⟨css,h1,h2,h3⟩:=h.own.ex
 obtain⟨es,c,hmr⟩:=hmr
 obtain⟨D1,es1,clock1,hk1,_⟩:=h.asks
 obtain⟨⟨es2,clock2,hk2,_⟩,_⟩:=h.kn
 obtain⟨D3,es3,clock3,hk3,_⟩:=hma
 have hkbm:∀(b:Nat) (es:Array MapEntry) (c:Nat),w.heap[b]? =some (.map es c)→b≠kb:=fun b es c hm e=>by
  have:=h.blk
  rw[←e,hm] at this
  cases this
 have hrow:∀k,(.slice vo vsE.length vc:Value).ownBlock=some k→∀(es:Array MapEntry) (c:Nat),w.heap[k]? ≠some (.map es c):=fun k e es c hm=>by
  rcases h1.2 with⟨hv,_⟩|⟨g,cap,cur,hv,_,hgg,_⟩
  ·rw[hv] at e;cases e
  ·rw[hv] at e
   have e2:g=k:=by simpa[Value.ownBlock] using e
   rw[e2,hm] at hgg
   cases hgg
 have hob:(.slice vo vs.length vc:Value).ownBlock=(.slice vo vsE.length vc:Value).ownBlock:=by cases vo<;>rfl
 have hown:OwnL VsIs w6 L 85 3 (.slice vo vs.length vc) vs:=by
  have h4:=own_cut h1 hle
  rw[flat_take (sz:=3) (fun i hi=>isElVs.len (h3 i (by rw[←h2];exact hi) hi))] at h4
  refine⟨css.take vs.length,own_kept2 h4 fun k e=>hst k (h4.lt k e).2 (h.xo k (by rw[←hob];exact e)).2 fun e'=>hrow k (by rw[←hob];exact e) _ _ (e'▸hmr),by simp;omega,fun i q q'=> ?_⟩
  have:=h3 i (by omega) (by simp at q';omega)
  unfold VsIs at this⊢
  have e:vs[i]=vsE[i]'(by omega):=by
   have:(vsE.take vs.length)[i]'(by simp;omega)=vsE[i]'(by omega):=by simp
   rw[←this]
   congr 1
   exact hpre.symm
  rw[e]
  simpa using this
 refine⟨⟨hbel,hblk,hown,h.kn.keeps (hst mk (h.up mk h.xk.2.1).2 (hkbm mk _ _ hk2) h.ne.2.1) fun q hq=>(hbel.block _ (h.ok q hq).1).trans (h.bel.block _ (h.ok q hq).1).symm,h.ok,MapA.keeps ⟨D3,es3,clock3,hk3,by assumption⟩ (hst ma (lt_of_block hk3) (hkbm ma _ _ hk3) hne),⟨.inl ⟨h.xk.1,Ne.symm (hkbm ma1 _ _ hk1)⟩,.inl ⟨h.xk.2.1,h.ne.1⟩,.inr rfl⟩,fun k e=> ?_,⟨fun e=>hnx (e▸h.xk.2.1),h.ne.2.1,hne⟩,(fun e=>by cases e),fun b hb=> ?_,by have:=h.few;omega,by have:=h.mrl;omega,h.mre⟩,h.asks.keeps (hst ma1 (h.up ma1 h.xk.2.2).2 (hkbm ma1 _ _ hk1) h.ne.2.2),fun hx=> ?_⟩
 ·rw[hob] at e
  exact⟨.inl ⟨(h.xo k e).1,fun e'=>hrow k e _ _ (e'▸hk1)⟩,(h.xo k e).2⟩
 ·rcases hb with hb | rfl
  ·have:=h.up b hb.1;omega
  ·have:=lt_of_block hk3;omega
 ·rcases hx with hx | hx
  ·exact hx.2 rfl
  ·exact hnx (hx▸h.xk.2.2)
end Go.Proofs.YtepkhlpjgnckkaaGreatDoor
