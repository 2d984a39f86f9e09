/- stmt: a loop. And more of the same. -/
import Derived.Test.YtepkhlpjgnckkaaGreatDoorZD1
namespace Go.Proofs.YtepkhlpjgnckkaaGreatDoor
set_option maxRecDepth 100000
set_option maxHeartbeats 8000000
open Go.RowKit
open Par (Tr Stm Prm Chn Prc Prg Po ba)
def WhI (L rb pb lb fuel lc:Nat)(P:Prg)(cv av nv qv:Value)(fb deep:Nat)(X:Nat→Prop)(ev:Value)(w wr:World)(e:Tr)(a:List Stm)(r:Rr.Env×Int×Rr.Sg)(j:Nat):Prop:=
 ∃(X1:Nat→Prop) (vo:Option Addr) (vc:Nat) (nbs:List Nat) (env:Rr.Env) (back:Int) (ev1:Value) (g:Rr.Sg),(Rr.sem P fuel j).whl deep env back e a g=some r∧Rc wr L rb pb lb fuel lc P cv av nv qv ev1 g∧Rf wr fb rb deep X1 vo vc nbs env back∧Ap X1 L rb lb pb ev1∧Kf X X1 rb lb ev ev1 w wr
theorem stmt_while {L rb pb lb fuel lc:Nat}{P:Prg}{cv av nv qv:Value}{m:Nat}(hS:∀j,j≤m→ValC L rb pb lb fuel lc P cv av nv qv (Rr.sem P fuel j).val∧BlC L rb pb lb fuel lc P cv av nv qv (Rr.sem P fuel j).blk){w:World}{deep fb:Nat}{X:Nat→Prop}{vo:Option Addr}{vc:Nat}{nbs:List Nat}{env env':Rr.Env}{back back':Int}{ev:Value}{g g':Rr.Sg}{p:Int}{s o:ByteArray}{d:Bool}{l:List Po}{e:Tr}{a b2:List Stm}{b off:Nat}{cs:List Value}
 (hR:Rc w L rb pb lb fuel lc P cv av nv qv ev g) (hF:Rf w fb rb deep X vo vc nbs env back) (hA:Ap X L rb lb pb ev) (hat:At w (fun b=>b<L) b off cs) (hst:StIs w (fun b=>b<L) (.mk 4 p s o d l e a b2) cs) (hq:Rr.stmF P fuel (Rr.sem P fuel m) deep env back (.mk 4 p s o d l e a b2) g=some (env',back',g')):
 Calls Tryz.prog 56 #[.pointer (some ⟨fb,0,none⟩),.pointer (some ⟨b,off,none⟩)] w fun r w'=>r=.returned (.tuple #[])∧FrP L rb pb lb fuel lc fb deep X ev w env' back' g' w':=by
 unfold Rr.stmF at hq
 replace hq:=Option.bind_eq_some_iff.1 hq
 obtain⟨g1,hs,hq⟩:=hq
 obtain⟨hlt,rfl⟩:=step_some hs
 have hq':(if a.length≤1000 then((Rr.sem P fuel m).whl deep env back e a ({g with steps:=g.steps+1}:Rr.Sg)).bind fun v=>if env.length≤v.1.length then some v else none else none)=some (env',back',g'):=hq
 split at hq'
 case isFalse=>cases hq'
 rename_i hal
 obtain⟨v,hv,hq2⟩:=Option.bind_eq_some_iff.1 hq'
 split at hq2
 case isFalse=>cases hq2
 obtain rfl:=Option.some.inj hq2
 have HC:=hidq (cellsS hR hF hA hat hst _ rfl)
 obtain⟨lv,ce,yv,bv,hcs,_,_,_,hte,hya,_⟩:=hst.rows
 obtain⟨yo,yc,rfl⟩:=hya.val
 have HSTA:Hid (∀wr (X1:Nat→Prop) ev1,Kf X X1 rb lb ev ev1 w wr→Keeps (fun b=>b<L) w wr):=fun wr X1 ev1 hKf=>⟨hKf.kp.size,fun b hb hl=>hKf.kp.block b ⟨by have:=hR.rs.rl;omega,by have:=hR.rs.ll;omega,fun e=>by have:=(hR.rs.evl b e.symm).1;omega,fun e=>by have:=(hA b e).1;omega⟩ hl⟩
 have HAT:=hidq hat
 have HST:=hidq hst
 have HYA:=hidq hya
 obtain⟨al,hale⟩:∃n,n=a.length:=⟨_,rfl⟩
 have HY:Hid (∀wr,Keeps (fun b=>b<L) w wr→wr.cell? ⟨b,off+13,none⟩=some (.slice yo al yc)∧b<wr.heap.size):=fun wr hk=>by
  have h1:=HAT.out.keeps hk
  refine⟨h1.cell 13 _ ?_,h1.lt⟩
  rw[hcs,hale]
  simp[hte.len]
 have hst1:=stepS hR hlt
 obtain⟨f0,_,c0,c2,_,hfl,hbl,_⟩:=HC.out w ev (Kr.refl _ _ _ _)
 have HF:=hidq hF
 have HA:=hidq hA
 have HV:=hidq hv
 have HS:=hidq hS
 have HAL:Hid (al=a.length∧a.length≤1000):=⟨hale,hal⟩
 clear hq hq' hq2 hs hR hF hA hat hst hv hS hcs hte hya hal hale
 go_enter Tryz.func56,Tryz.ntmps56
 go_wp2_with fail
 refine hst1.mono ?_
 rintro x w1 ⟨rfl,H1⟩
 obtain⟨e0,e2,d0,d2,_,el,dl,_⟩:=HC.out w1 ev H1.out.2
 have HI0:Hid (WhI L rb pb lb fuel lc P cv av nv qv fb deep X ev w w1 e a (env',back',g') m):=⟨X,vo,vc,nbs,env,back,ev,_,HV.out,H1.out.1,HF.out.next HA.out H1.out.2,HA.out.next (fun b hb=>(HF.out.up b hb).2) H1.out.2,Kf.of H1.out.2⟩
 clear hst1 f0 c0 c2 hfl hbl
 go_wp2
 go_loopg [] (m) (fun gk wr=>Hid (gk≤m∧WhI L rb pb lb fuel lc P cv av nv qv fb deep X ev w wr e a (env',back',g') gk))
 case atStart=>exact⟨Nat.le_refl _,HI0.out⟩
 case round=>
  clear HI0 e0 e2 d0 d2 el dl
  obtain⟨hgm,X1,vo1,vc1,nbs1,env1,back1,ev1,g1,hwl,hRc,hRf,hAp,hKf⟩:=hrel.out
  obtain⟨j,rfl⟩:∃j,gk=j+1:=by
   cases gk with
   | zero=>cases hwl
   | succ j=>exact⟨j,rfl⟩
  have hwl':(((Rr.sem P fuel j).val deep env1 e g1).bind fun u=>if u.1=0 then some (env1,back1,u.2) else((Rr.sem P fuel j).blk deep env1 back1 a u.2).bind fun v=>(Rr.sem P fuel j).whl deep v.1 v.2.1 e a v.2.2)=some (env',back',g'):=hwl
  obtain⟨⟨n,g2⟩,hv,hw2⟩:=Option.bind_eq_some_iff.1 hwl'
  have hkp:=HSTA.out wr X1 ev1 hKf
  have hcall:=valE (HS.out j (by omega)).1 hRc hRf hAp (HAT.out.keeps hkp) (HST.out.keeps hkp) hv wr wr ev1 hRc (Kr.refl _ _ _ _) (Below.refl _ _)
  obtain⟨y13,hbl⟩:=HY.out wr hkp
  have hfl:=lt_of_block hRf.blk
  by_cases hn:n=0
  ·subst hn
   have hw3:some (env1,back1,g2)=some (env',back',g'):=hw2
   simp only[Option.some.injEq,Prod.mk.injEq] at hw3
   obtain⟨rfl,rfl,rfl⟩:=hw3
   have HFIN:Hid (∀w2 ev2,Rc w2 L rb pb lb fuel lc P cv av nv qv ev2 g2→Kr rb lb ev1 ev2 wr w2→FrP L rb pb lb fuel lc fb deep X ev w env1 back1 g2 w2):=fun w2 ev2 q1 q2=>⟨X1,vo1,vc1,nbs1,ev2,q1.rs,hRf.next hAp q2,hAp.next (fun b hb=>(hRf.up b hb).2) q2,hKf.trans (Kf.of q2)⟩
   clear hwl hwl' hw2 hRc hRf hAp hKf hv hkp hrel hgm
   go_wp2_with fail
   refine hcall.mono ?_
   rintro x w2 ⟨rfl,H2⟩
   clear hcall
   go_wp2
   go_end0
   exact⟨rfl,by obtain⟨ev2,h1,h2⟩:=H2.out;exact HFIN.out w2 ev2 h1 h2⟩
  ·have hw3:(((Rr.sem P fuel j).blk deep env1 back1 a g2).bind fun v=>(Rr.sem P fuel j).whl deep v.1 v.2.1 e a v.2.2)=some (env',back',g'):=by rw[←hw2];exact(if_neg hn).symm
   obtain⟨⟨env2,back2,g3⟩,hblk,hw4⟩:=Option.bind_eq_some_iff.1 hw3
   have HBK:Hid (∀w2 ev2,Rc w2 L rb pb lb fuel lc P cv av nv qv ev2 g2→Kr rb lb ev1 ev2 wr w2→Calls Tryz.prog 31 #[.pointer (some ⟨fb,0,none⟩),.slice yo al yc] w2 fun r w'=>r=.returned (.tuple #[])∧Hid (WhI L rb pb lb fuel lc P cv av nv qv fb deep X ev w w' e a (env',back',g') j)):=fun w2 ev2 q1 q2=>by
    have hA2:=hAp.next (fun b hb=>(hRf.up b hb).2) q2
    have hk2:=HSTA.out w2 X1 ev2 (hKf.trans (Kf.of q2))
    have hb:=(HS.out j (by omega)).2 w2 deep fb X1 vo1 vc1 nbs1 env1 env2 back1 back2 ev2 g2 g3 a (.slice yo al yc) q1 (hRf.next hAp q2) hA2 (by rw[HAL.out.1];exact HYA.out.keeps (fun h=>h.keeps hk2) hk2) HAL.out.2 hblk
    refine hb.mono ?_
    rintro r w' ⟨rfl,X2,vo2,vc2,nbs2,ev3,r1,r2,r3,r4⟩
    exact⟨rfl,X2,vo2,vc2,nbs2,env2,back2,ev3,g3,hw4,q1.nextF hA2 r1 r4,r2,r3,(hKf.trans (Kf.of q2)).trans r4⟩
   have hnn:(n !=0)=true:=by simpa using hn
   have HCY:Hid (∀w2 ev2,Kr rb lb ev1 ev2 wr w2→w2.cell? ⟨b,off+13,none⟩=some (.slice yo al yc)∧b<w2.heap.size∧fb<w2.heap.size):=fun w2 ev2 q2=>by
    have h1:=HY.out w2 (HSTA.out w2 X1 ev2 (hKf.trans (Kf.of q2)))
    exact⟨h1.1,h1.2,lt_of_block (hRf.next hAp q2).blk⟩
   clear hwl hwl' hw2 hw3 hw4 hblk hRc hRf hAp hKf hv hkp hrel hn
   go_wp2_with fail
   refine hcall.mono ?_
   rintro x w2 ⟨rfl,H2⟩
   obtain⟨ev2,h1,h2⟩:=H2.out
   have hb2:=HBK.out w2 ev2 h1 h2
   obtain⟨z13,zl,zf⟩:=HCY.out w2 ev2 h2
   clear hcall h1 h2 y13 hbl hfl
   go_wp2_with fail
   refine hb2.mono ?_
   rintro x w3 ⟨rfl,H3⟩
   clear hb2
   go_wp2
   go_roundg j
   case measure=>omega
   case rel=>exact⟨by omega,H3.out⟩
theorem stmt_take {L rb pb lb fuel lc:Nat}{P:Prg}{cv av nv qv:Value}{S:Rr.Sem}{w:World}{deep fb:Nat}{X:Nat→Prop}{vo:Option Addr}{vc:Nat}{nbs:List Nat}{env env':Rr.Env}{back back':Int}{ev:Value}{g g':Rr.Sg}{p:Int}{s o:ByteArray}{d:Bool}{l:List Po}{e:Tr}{a b2:List Stm}{b off:Nat}{cs:List Value}
 (hR:Rc w L rb pb lb fuel lc P cv av nv qv ev g) (hF:Rf w fb rb deep X vo vc nbs env back) (hA:Ap X L rb lb pb ev) (hat:At w (fun b=>b<L) b off cs) (hst:StIs w (fun b=>b<L) (.mk 6 p s o d l e a b2) cs) (hq:Rr.stmF P fuel S deep env back (.mk 6 p s o d l e a b2) g=some (env',back',g')):
 Calls Tryz.prog 56 #[.pointer (some ⟨fb,0,none⟩),.pointer (some ⟨b,off,none⟩)] w fun r w'=>r=.returned (.tuple #[])∧FrP L rb pb lb fuel lc fb deep X ev w env' back' g' w':=by
 unfold Rr.stmF at hq
 replace hq:=Option.bind_eq_some_iff.1 hq
 obtain⟨g1,hs,hq⟩:=hq
 obtain⟨hlt,rfl⟩:=step_some hs
 have hq':((Rr.findC P.chans o 0).bind fun c=>(Rr.takeF ({g with steps:=g.steps+1}:Rr.Sg) c.1 c.2.type).bind fun u=>(Rr.putE env s u.1).map (·,back,u.2))=some (env',back',g'):=hq
 obtain⟨⟨ci,ch⟩,hfc,hq1⟩:=Option.bind_eq_some_iff.1 hq'
 obtain⟨⟨n,g2⟩,hv,hq2⟩:=Option.bind_eq_some_iff.1 hq1
 obtain⟨env2,hpe,hq3⟩:=Option.map_eq_some_iff.1 hq2
 simp only[Prod.mk.injEq] at hq3
 obtain⟨rfl,rfl,rfl⟩:=hq3
 obtain⟨i,hi,h1,rfl,h3⟩:=putE_first hpe
 have hi':i<nbs.length:=by rw[hF.len];exact hi
 obtain⟨nb,hnb⟩:∃x,x=nbs[i]:=⟨_,rfl⟩
 obtain⟨j,hj,h0,hch, -, -⟩:=findC_first hfc
 obtain rfl:ci=j:=by omega
 dsimp only at hv
 rw[←hch] at hv
 have HC:=hidq (cellsS hR hF hA hat hst _ rfl)
 have HFI:=hidq (finE (L:=L) (pb:=pb) (fuel:=fuel) (lc:=lc) (P:=P) (cv:=cv) (av:=av) (nv:=nv) (qv:=qv) hF hA hi h1 h3 hnb)
 have HCH:Hid (∀(W W':World),Rc W L rb pb lb fuel lc P cv av nv qv ev {g with steps:=g.steps+1}→Kr rb lb ev ev w W→Below W.heap.size W W'→Calls Tryz.prog 95 #[.pointer (some ⟨rb,0,none⟩),.string o] W' fun x w'=>x=.returned (.int .i64 (ci:Nat))∧Hid (Rc w' L rb pb lb fuel lc P cv av nv qv ev {g with steps:=g.steps+1}∧Kr rb lb ev ev w w')):=fun W W' q1 q2 q3=>by
  have h1:=q1.bel q3
  refine(channelC h1.1.rs h1.1.pm hfc).mono ?_
  rintro x w' ⟨rfl,hb⟩
  have h2:=h1.1.bel hb
  exact⟨rfl,h2.1,q2.trans (h1.2.trans h2.2)⟩
 have HTA:Hid (∀(W W':World),Rc W L rb pb lb fuel lc P cv av nv qv ev {g with steps:=g.steps+1}→Kr rb lb ev ev w W→Below W.heap.size W W'→Calls Tryz.prog 96 #[.pointer (some ⟨rb,0,none⟩),.int .i64 (ci:Nat)] W' fun x w'=>x=.returned (.int .i64 n)∧Hid (Rc w' L rb pb lb fuel lc P cv av nv qv ev g2∧Kr rb lb ev ev w w')):=fun W W' q1 q2 q3=>by
  have h1:=q1.bel q3
  refine(takeC h1.1.rs h1.1.pm hj hv).mono ?_
  rintro x w' ⟨rfl,h2,h3⟩
  exact⟨rfl,h1.1.next h2 h3,q2.trans (h1.2.trans h3)⟩
 have HPU:Hid (∀(w3 W:World),Rc w3 L rb pb lb fuel lc P cv av nv qv ev g2→Kr rb lb ev ev w w3→Below w3.heap.size w3 W→Calls Tryz.prog 55 #[.int .i64 n,.pointer (some ⟨nb,0,none⟩)] W fun x w'=>x=.returned (.tuple #[])∧Hid (FrP L rb pb lb fuel lc fb deep X ev w (env.set i (env[i].1,n)) back g2 w')):=fun w3 W q1 q2 q3=>by
  have r1:=q1.bel q3
  obtain⟨r2,r3⟩:=setEnd (n:=n) r1.1 (q2.trans r1.2) hF hA hi hi'
  rw[←hnb] at r2 r3
  refine(putV n r3).mono ?_
  rintro x w' ⟨rfl,rfl⟩
  exact⟨rfl,r2⟩
 have hst1:=stepS hR hlt
 obtain⟨f0,_,c0,c2,_,hfl,hbl,_⟩:=HC.out w ev (Kr.refl _ _ _ _)
 have ff:=fVr2
 have HFC:Hid (∀W,FrP L rb pb lb fuel lc fb deep X ev w (env.set i (env[i].1,n)) back g2 W→_∧_∧_):=fun W h=>frCells hR hA hat hst h
 clear hq hq' hq1 hs hR hF hA hat hst hv hpe h1 h3 hnb hi' hfc hch hj h0
 go_enter Tryz.func56,Tryz.ntmps56
 go_wp2_with fail
 refine hst1.mono ?_
 rintro x w1 ⟨rfl,H1⟩
 obtain⟨e0,e2,d0,d2,d3,el,dl,_⟩:=HC.out w1 ev H1.out.2
 clear hst1 f0 c0 c2 hfl hbl
 go_upto_region 17 with fail
 go_region_held3 (fun W=>W.cell? ⟨fb,0,none⟩=some (.pointer (some ⟨rb,0,none⟩))∧W.cell? ⟨b,off+2,none⟩=some (.string s)∧W.cell? ⟨b,off+3,none⟩=some (.string o)) (go_keep)
  (first
    |(go_at_call 93;refine(HFI.out w1 _ ev _ H1.out.1 H1.out.2 (by exact⟨rfl,rfl,rfl,Nat.le_refl _,fun _ _=>rfl⟩)).mono ?_;rintro x w2 ⟨rfl,H2⟩;obtain⟨e20,_,_,d22,d23,el2,dl2,_⟩:=HC.out w2 ev H2.out.2)
    |(go_at_call 95;refine(HCH.out w2 _ H2.out.1 H2.out.2 (by exact⟨rfl,rfl,rfl,Nat.le_refl _,fun _ _=>rfl⟩)).mono ?_;rintro x w3 ⟨rfl,H3⟩;obtain⟨e30,_,_,d32,d33,el3,dl3,_⟩:=HC.out w3 ev H3.out.2)
    |(go_at_call 96;refine(HTA.out w3 _ H3.out.1 H3.out.2 (by exact⟨rfl,rfl,rfl,Nat.le_refl _,fun _ _=>rfl⟩)).mono ?_;rintro x w4 ⟨rfl,H4⟩;obtain⟨e40,_,_,d42,d43,el4,dl4,_⟩:=HC.out w4 ev H4.out.2)
    |(go_at_call 55;refine(HPU.out w4 _ H4.out.1 H4.out.2 (by exact⟨rfl,rfl,rfl,Nat.le_refl _,fun _ _=>rfl⟩)).mono ?_;rintro x w5 ⟨rfl,H5⟩;obtain⟨e50,d52,d53⟩:=HFC.out w5 H5.out))
 go_wp2
 go_end0
 exact⟨rfl,H5.out⟩
theorem stmt_let {L rb pb lb fuel lc:Nat}{P:Prg}{cv av nv qv:Value}{S:Rr.Sem}(hV:ValC L rb pb lb fuel lc P cv av nv qv S.val){w:World}{deep fb:Nat}{X:Nat→Prop}{vo:Option Addr}{vc:Nat}{nbs:List Nat}{env env':Rr.Env}{back back':Int}{ev:Value}{g g':Rr.Sg}{p:Int}{s o:ByteArray}{d:Bool}{l:List Po}{e:Tr}{a b2:List Stm}{b off:Nat}{cs:List Value}
 (hR:Rc w L rb pb lb fuel lc P cv av nv qv ev g) (hF:Rf w fb rb deep X vo vc nbs env back) (hA:Ap X L rb lb pb ev) (hat:At w (fun b=>b<L) b off cs) (hst:StIs w (fun b=>b<L) (.mk 1 p s o d l e a b2) cs) (hq:Rr.stmF P fuel S deep env back (.mk 1 p s o d l e a b2) g=some (env',back',g')):
 Calls Tryz.prog 56 #[.pointer (some ⟨fb,0,none⟩),.pointer (some ⟨b,off,none⟩)] w fun r w'=>r=.returned (.tuple #[])∧FrP L rb pb lb fuel lc fb deep X ev w env' back' g' w':=by
 unfold Rr.stmF at hq
 replace hq:=Option.bind_eq_some_iff.1 hq
 obtain⟨g1,hs,hq⟩:=hq
 obtain⟨hlt,rfl⟩:=step_some hs
 have hq':((S.val deep env e ({g with steps:=g.steps+1}:Rr.Sg)).bind fun u=>if env.length<999 then some (env++[(s,u.1)],back,u.2) else none)=some (env',back',g'):=hq
 obtain⟨⟨n,g2⟩,hv,hq2⟩:=Option.bind_eq_some_iff.1 hq'
 split at hq2
 case isFalse=>cases hq2
 rename_i hfew
 simp only[Option.some.injEq,Prod.mk.injEq] at hq2
 obtain⟨rfl,rfl,rfl⟩:=hq2
 obtain⟨k,hk⟩:∃k,k=env.length:=⟨_,rfl⟩
 have HV:=hidq (valE hV hR hF hA hat hst hv)
 have HC:=hidq (cellsS hR hF hA hat hst k hk)
 have hst1:=stepS hR hlt
 obtain⟨f0,f2,c0,c2,_,hfl,hbl,_⟩:=HC.out w ev (Kr.refl _ _ _ _)
 have HNX:Hid (∀(w2:World) (ev2:Value),Rc w2 L rb pb lb fuel lc P cv av nv qv ev2 g2→Kr rb lb ev ev2 w w2→∃css:List (List Value),w2.ownsRow (fb+1) 92 3 (.slice vo k vc) k css.flatten∧w2.heap[fb]? =some (.cells #[.pointer (some ⟨rb,0,none⟩),.int .i64 (deep:Nat),.slice vo k vc,.int .i64 back] 82 (0,0))∧(some fb≠(.slice vo k vc:Value).ownBlock)∧∀(w5 w8:World) (vo':Option Addr) (vc':Nat) (nb:Nat),Below w2.heap.size w2 w5→w5.heap[nb]? =some (.cells #[.int .i64 n] 3 (0,0))→w2.heap.size≤nb→w8.ownsRow (fb+1) 92 3 (.slice vo' (k+1) vc') (k+1) (css.flatten++varC s nb)→w5.grownBy w8 (.slice vo k vc:Value).ownBlock→((.slice vo' (k+1) vc':Value).ownBlock=(.slice vo k vc:Value).ownBlock∨(.slice vo' (k+1) vc':Value).ownBlock=some w5.heap.size)→FrP L rb pb lb fuel lc fb deep X ev w (env++[(s,n)]) back g2 (w8.setCell ⟨fb,2,none⟩ (.slice vo' (k+1) vc'))):=fun w2 ev2 q1 q2=>by
  have hF2:=hF.next hA q2
  have hA2:=hA.next (fun b hb=>(hF.up b hb).2) q2
  obtain⟨css,h1,h2,h3⟩:=hF2.own.ex
  have hlen:((env.map (·.1)).zip nbs).length=env.length:=by simp[hF.len]
  refine⟨css,by rw[hlen] at h1;rw[hk];exact h1,by rw[hk];exact hF2.blk,fun e=> ?_,fun w5 w8 vo' vc' nb r1 r2 r3 r4 r5 r6=> ?_⟩
  ·rw[hlen,←hk] at h1
   have:=(h1.lt fb e.symm).1
   omega
  ·subst hk
   exact letEnd q1 q2 hF2 hA2 hfew r1 r2 r3 h2 h3 r4 r5 r6
 obtain⟨i0,hi0,hz0,hz1,hz2⟩:=info_parts Tryz.infoVr
 have hk9:k<999:=by omega
 have hLfb:=(hA fb hF.xf).1
 clear hq hq' hs hR hF hA hat hst hv hV hfew hk
 go_enter Tryz.func56,Tryz.ntmps56
 go_wp2_with fail
 refine hst1.mono ?_
 rintro x w1 ⟨rfl,H1⟩
 obtain⟨e0,e2,d0,d2,_,el,dl,_⟩:=HC.out w1 ev H1.out.2
 clear hst1 f0 f2 c0 c2 hfl hbl
 go_upto_region 3 with fail
 go_region_law (first
  |(go_simp
    go_at_call 92
    refine(HV.out w1 _ ev H1.out.1 H1.out.2 (by exact⟨rfl,rfl,rfl,Nat.le_refl _,fun _ _=>rfl⟩)).mono ?_
    rintro x w2 ⟨rfl,H2⟩
    obtain⟨e20,e22,d20,d22,el2,dl2⟩:w2.cell? ⟨fb,0,none⟩=some (.pointer (some ⟨rb,0,none⟩))∧w2.cell? ⟨fb,2,none⟩=some (.slice vo k vc)∧w2.cell? ⟨b,off,none⟩=some (.int .i64 1)∧w2.cell? ⟨b,off+2,none⟩=some (.string s)∧fb<w2.heap.size∧b<w2.heap.size:=(by obtain⟨ev',h1,h2⟩:=H2.out;obtain⟨a0,a2,a3,a4,_,a5,a6,_⟩:=HC.out w2 ev' h2;exact⟨a0,a2,a3,a4,a5,a6⟩)
    obtain⟨css2,HO,HX2,HFV,HE⟩:∃css:List (List Value),Hid (w2.ownsRow (fb+1) 92 3 (.slice vo k vc) k css.flatten)∧Hid (w2.heap[fb]? =some (.cells #[.pointer (some ⟨rb,0,none⟩),.int .i64 (deep:Nat),.slice vo k vc,.int .i64 back] 82 (0,0)))∧Hid (some fb≠(.slice vo k vc:Value).ownBlock)∧Hid (∀(w5 w8:World) (vo':Option Addr) (vc':Nat) (nb:Nat),Below w2.heap.size w2 w5→w5.heap[nb]? =some (.cells #[.int .i64 n] 3 (0,0))→w2.heap.size≤nb→w8.ownsRow (fb+1) 92 3 (.slice vo' (k+1) vc') (k+1) (css.flatten++varC s nb)→w5.grownBy w8 (.slice vo k vc:Value).ownBlock→((.slice vo' (k+1) vc':Value).ownBlock=(.slice vo k vc:Value).ownBlock∨(.slice vo' (k+1) vc':Value).ownBlock=some w5.heap.size)→FrP L rb pb lb fuel lc fb deep X ev w (env++[(s,n)]) back g2 (w8.setCell ⟨fb,2,none⟩ (.slice vo' (k+1) vc'))):=(by obtain⟨ev',h1,h2⟩:=H2.out;exact HNX.out w2 ev' h1 h2)
    dsimp only)
  |(go_simp
    go_at_call 30
    refine(newVarC s n _).mono ?_
    rintro x w4 ⟨rfl,hb4,hbx4⟩
    have HB4:=hidq hb4
    have HX4:=hidq hbx4
    have HK4:=hidq (ku hb4 HX2.out)
    have v4:=(hb4.cell (p:=⟨fb,2,none⟩) el2).trans e22
    have g4:=lt_of_block HK4.out
    clear hb4 hbx4
    dsimp only)
  |(refine step_append_lies _ rfl _ _ 80 rfl (fb+1) 92 i0 (.agg #[.string ⟨#[]⟩,.nilFunc,.nilFunc]) 3 32 Tryz.underlying80 hi0 hz0 hz1 hz2 rfl (by decide) _ _ _ rfl (World.ownsRow.alloc (own_kept2 HO.out fun j e=>HB4.out.block j (HO.out.lt j e).2) _) ⟨w4.heap.size,0,none⟩ 1 1 (varC s w2.heap.size) rfl rfl (new3 _ _) (by intro u hu;simp only[List.mem_cons,List.not_mem_nil,or_false] at hu;rcases hu with rfl | rfl | rfl<;>rfl) (by decide) (by unfold maxLen;omega) (by omega) (by have:=HB4.out.size;simp;omega) _ rfl ?_
    intro g8 cap8 w8 hown8 hgrow8 hat8 hlt8
    have hgr:(w4.alloc (.cells ⟨varC s w2.heap.size⟩ 92)).grownBy w8 (.slice vo k vc:Value).ownBlock:=hgrow8
    have hat:(.slice (some ⟨g8,0,none⟩) (k+1) cap8:Value).ownBlock=(.slice vo k vc:Value).ownBlock∨(.slice (some ⟨g8,0,none⟩) (k+1) cap8:Value).ownBlock=some (w4.alloc (.cells ⟨varC s w2.heap.size⟩ 92)).heap.size:=hat8.imp (fun h=>h.symm) (fun h=>congrArg some h)
    have HFIN:=hidq (HE.out (w4.alloc (.cells ⟨varC s w2.heap.size⟩ 92)) w8 (some ⟨g8,0,none⟩) cap8 w2.heap.size (HB4.out.alloc HB4.out.size _) (heap_past_alloc HX4.out) (Nat.le_refl _) hown8 hgr hat)
    have hX8:=(hgr.block fb (by simp;omega) HFV.out).trans (heap_past_alloc HK4.out)
    have y0:=cl hX8 2 rfl
    have y8:=fz hX8 2
    have l9:=lt_of_block hX8
    clear hown8 hgrow8 hat8 hX8 hgr hat))
 all_goals go_wp2
 all_goals go_end0
 all_goals exact⟨rfl,HFIN.out⟩
theorem stmF_len {P:Prg}{fuel:Nat}{S:Rr.Sem}{d:Nat}{e:Rr.Env}{b:Int}{s:Stm}{g:Rr.Sg}{r:Rr.Env×Int×Rr.Sg}(h:Rr.stmF P fuel S d e b s g=some r):e.length≤r.1.length:=by
 unfold Rr.stmF at h
 obtain⟨g1,_,h⟩:=Option.bind_eq_some_iff.1 h
 obtain⟨k,p,s,o,dd,l,x,a,b2⟩:=s
 dsimp only at h
 have hput:∀{env env':Rr.Env} {s:ByteArray} {n:Int},Rr.putE env s n=some env'→env.length≤env'.length:=fun h=>by
  obtain⟨i,hi,_,rfl,_⟩:=putE_first h
  simp
 split at h
 ·obtain⟨u,_,h⟩:=Option.bind_eq_some_iff.1 h
  split at h
  ·cases h;simp
  ·cases h
 split at h
 ·obtain⟨u,_,h⟩:=Option.bind_eq_some_iff.1 h
  obtain⟨x,hx,rfl⟩:=Option.map_eq_some_iff.1 h
  exact hput hx
 split at h
 ·split at h
  ·obtain⟨v,_,h⟩:=Option.bind_eq_some_iff.1 h
   split at h
   ·cases h;assumption
   ·cases h
  ·cases h
 split at h
 ·obtain⟨u,_,h⟩:=Option.bind_eq_some_iff.1 h
  obtain⟨c,_,h⟩:=Option.bind_eq_some_iff.1 h
  split at h
  ·cases h;exact Nat.le_refl _
  ·cases h
 split at h
 ·obtain⟨u,_,h⟩:=Option.bind_eq_some_iff.1 h
  obtain⟨c,_,h⟩:=Option.bind_eq_some_iff.1 h
  obtain⟨x,hx,rfl⟩:=Option.map_eq_some_iff.1 h
  exact hput hx
 split at h
 ·obtain⟨u,_,rfl⟩:=Option.map_eq_some_iff.1 h
  exact Nat.le_refl _
 ·cases h
theorem value_any {L rb pb lb fuel lc:Nat}{P:Prg}{cv av nv qv:Value}{S:Rr.Sem}(hV:ValC L rb pb lb fuel lc P cv av nv qv S.val)(hB:BlC L rb pb lb fuel lc P cv av nv qv S.blk):ValC L rb pb lb fuel lc P cv av nv qv (Rr.valF P fuel S):=by
 intro w deep fb X vo vc nbs env back ev g g' x b off cs n hR hF hA hat htr hq
 obtain⟨k,p,c,t,s,l,a⟩:=x
 by_cases h1:k=1∨k=2
 ·exact value_small hR hF hA hat htr h1 hq
 by_cases h3:k=3
 ·subst h3
  have hq':=hq
  unfold Rr.valF at hq'
  obtain⟨g1,_,hq'⟩:=Option.bind_eq_some_iff.1 hq'
  have hq2:((Rr.seqV (S.val deep env) a g1).bind fun u=>match u.1 with
   |[c,d]=>(Rr.reck s.data.toList c d).map (·,u.2)
   | _=>none)=some (n,g'):=hq'
  obtain⟨⟨us,g2⟩,hsq,hq3⟩:=Option.bind_eq_some_iff.1 hq2
  have hl:=seqV_len hsq
  refine value_op hV hR hF hA hat htr ?_ hq
  match us,hq3,hl with
  |[c1,d1],_,hl=>rw[hl];simp
 by_cases h4:k=4
 ·subst h4
  exact value_call hV hB hR hF hA hat htr hq
 ·exfalso
  unfold Rr.valF at hq
  obtain⟨g1,_,hq⟩:=Option.bind_eq_some_iff.1 hq
  dsimp only at hq
  rw[if_neg (fun h=>h1 (.inl h)),if_neg (fun h=>h1 (.inr h)),if_neg h3,if_neg h4] at hq
  cases hq
theorem stmt_any {L rb pb lb fuel lc:Nat}{P:Prg}{cv av nv qv:Value}{m:Nat}(hS:∀j,j≤m→ValC L rb pb lb fuel lc P cv av nv qv (Rr.sem P fuel j).val∧BlC L rb pb lb fuel lc P cv av nv qv (Rr.sem P fuel j).blk):StmC L rb pb lb fuel lc P cv av nv qv (Rr.stmF P fuel (Rr.sem P fuel m)):=by
 intro w deep fb X vo vc nbs env env' back back' ev g g' s b off cs hR hF hA hat hst hq
 have hV:=(hS m (Nat.le_refl _)).1
 obtain⟨k,p,s,o,d,l,e,a,b2⟩:=s
 by_cases h1:k=1
 ·subst h1;exact stmt_let hV hR hF hA hat hst hq
 by_cases h2:k=2
 ·subst h2;exact stmt_set hV hR hF hA hat hst hq
 by_cases h4:k=4
 ·subst h4;exact stmt_while hS hR hF hA hat hst hq
 by_cases h5:k=5
 ·subst h5;exact stmt_send hV hR hF hA hat hst hq
 by_cases h6:k=6
 ·subst h6;exact stmt_take hR hF hA hat hst hq
 by_cases h8:k=8
 ·subst h8;exact stmt_ret hV hR hF hA hat hst hq
 ·exfalso
  unfold Rr.stmF at hq
  obtain⟨g1,_,hq⟩:=Option.bind_eq_some_iff.1 hq
  dsimp only at hq
  rw[if_neg h1,if_neg h2,if_neg h4,if_neg h5,if_neg h6,if_neg h8] at hq
  cases hq
theorem sem_all {L rb pb lb fuel lc:Nat}{P:Prg}{cv av nv qv:Value}(m:Nat):∀j,j≤m→ValC L rb pb lb fuel lc P cv av nv qv (Rr.sem P fuel j).val∧BlC L rb pb lb fuel lc P cv av nv qv (Rr.sem P fuel j).blk:=by
 induction m with
 | zero=>
  intro j hj
  obtain rfl:j=0:=by omega
  exact⟨fun w deep fb X vo vc nbs env back ev g g' x b off cs n _ _ _ _ _ hq=>(by cases hq),fun w deep fb X vo vc nbs env env' back back' ev g g' l v _ _ _ _ _ hq=>(by cases hq)⟩
 | succ m ih=>
  intro j hj
  by_cases h:j≤m
  ·exact ih j h
  ·obtain rfl:j=m+1:=by omega
   have hV:=ih m (Nat.le_refl _)
   exact⟨value_any hV.1 hV.2,blockC (stmt_any ih) fun d e b s g r h=>stmF_len h⟩
theorem ends_idle (w:World):
 CallsD Tryz.prog 29 #[] .returning w fun x u' w'=>x=.returned (.tuple #[])∧u'=.returning∧w'=w:=by
 refine callsD_of_wpS Tryz.func29 rfl fun c₀ cs hu=> ?_
 apply wpS_seq
 apply wpS_region
 simp[wpOpsS,go_sem,recoverD,hu,Tryz.ntmps29,Exit.thenS]
 refine wpS_of_wp ?_
 show Code.wp _ _ _ {tmps:=#[.nilIface,undef,undef,.nilIface,undef,undef,undef,undef,undef,undef,undef,undef,undef,undef],defers:=[]} w
 go_wp2
 cases c₀
 simp_all [bodyPostS,results,Tryz.results29]
def catchE:Deferred:={target:=.fn (.func 29) #[],args:=#[]}
def EPost (Q:World→Prop)(x:Ending)(w':World):Prop:=x=.returned (.bool true)∧Q w'
theorem ends_door {wz:World}{tm:Array Value}{Q:World→Prop}(hq:Q wz)(h2:tm[2]? =some (.bool true)):
 Leaves Tryz.prog Tryz.f20 tm (EPost Q) [catchE] .returning wz:=by
 refine leaves_cons (f:=29) (args:=#[]) (by simp) (by simp[go_sem]) ?_
 refine(ends_idle wz).mono ?_
 rintro x u' w'' ⟨rfl,rfl,hw⟩
 subst hw
 exact⟨.bool true,by simp[results,Tryz.results20,go_sem,h2],rfl,hq⟩
theorem endsC {w:World}{bb:Nat}{Q:World→Prop}(h:Calls Tryz.prog 21 #[.pointer (some ⟨bb,0,none⟩)] w fun x w'=>x=.returned (.tuple #[])∧Hid (Q w')):
 Calls Tryz.prog 20 #[.func (.func 21) #[] #[.pointer (some ⟨bb,0,none⟩)]] w (EPost Q):=by
 go_enter_defers Tryz.func20,Tryz.ntmps20
 go_wp2_with fail
 refine h.mono ?_
 rintro x w1 ⟨rfl,hq⟩
 clear h
 go_wp2
 show Leaves _ _ _ _ _ _ _
 exact ends_door hq.out rfl
theorem program1C {w:World}{L rb pb lb fuel lc bb m:Nat}{ev:Value}{g g':Rr.Sg}{P:Prg}{cv av nv qv:Value}{q:Prc}{env':Rr.Env}{back':Int}(hR:Rc w L rb pb lb fuel lc P cv av nv qv ev g)(hbb:w.heap[bb]? =some (.cells #[.pointer (some ⟨rb,0,none⟩)] 61 (0,0)))(hbn:bb≠rb∧bb≠lb∧some bb≠ev.ownBlock)(hq:Rr.findP P.procs (ba [109,97,105,110])=some q)(hpz:q.params=[])(hbl:q.body.length≤1000)(hs:(Rr.sem P fuel m).blk 0 [] 0 q.body g=some (env',back',g')):
 Calls Tryz.prog 21 #[.pointer (some ⟨bb,0,none⟩)] w fun x w'=>x=.returned (.tuple #[])∧Hid (∃ev',RS w' L rb pb lb fuel lc ev' g'∧Kr rb lb ev ev' w w'):=by
 have HPR:Hid (∀W,Below w.heap.size w W→Calls Tryz.prog 23 #[.pointer (some ⟨rb,0,none⟩),.string (ba [109,97,105,110])] W fun x w'=>∃b off cs,x=.returned (.pointer (some ⟨b,off,none⟩))∧At W (fun b=>b<L) b off cs∧PcIs W (fun b=>b<L) q cs∧Below W.heap.size W w'):=fun W hW=>rprocC (hR.bel hW).1.rs (hR.bel hW).1.pm hq
 have HDO:Hid (∀W b off cs,Below w.heap.size w W→At W (fun b=>b<L) b off cs→PcIs W (fun b=>b<L) q cs→Calls Tryz.prog 22 #[.pointer (some ⟨rb,0,none⟩),.pointer (some ⟨b,off,none⟩),.slice none 0 0,.int .i64 0] W fun r w'=>r=.returned (.int .i64 back')∧Hid (∃ev',RS w' L rb pb lb fuel lc ev' g'∧Kr rb lb ev ev' w w')):=fun W b off cs hW hat hpc=>by
  have hRW:=(hR.bel hW).1
  have h1:=doC (deep:=0) (ns:=[]) (ao:=none) (ac:=0) (ag:=0) (sem_all (L:=L) (rb:=rb) (pb:=pb) (lb:=lb) (fuel:=fuel) (lc:=lc) (P:=P) (cv:=cv) (av:=av) (nv:=nv) (qv:=qv) m m (Nat.le_refl _)).2 hRW hat hpc (by omega) (by rw[hpz];rfl) (by rw[hpz];simp) hbl (fun h=>by simp at h) (fun i h=>by simp at h) (by rw[hpz];exact hs)
  refine h1.mono ?_
  rintro r w' ⟨rfl,ev',h2,h3⟩
  exact⟨rfl,ev',h2,(hR.bel hW).2.trans h3⟩
 have HD3:Hid (∀W0 w2 b off cs,Below w.heap.size w W0→At W0 (fun b=>b<L) b off cs→PcIs W0 (fun b=>b<L) q cs→Below W0.heap.size W0 w2→∀W,Below w2.heap.size w2 W→Calls Tryz.prog 22 #[.pointer (some ⟨rb,0,none⟩),.pointer (some ⟨b,off,none⟩),.slice none 0 0,.int .i64 0] W fun r w'=>r=.returned (.int .i64 back')∧Hid (∃ev',RS w' L rb pb lb fuel lc ev' g'∧Kr rb lb ev ev' w w')):=fun W0 w2 b off cs h0 hat hpc h2 W hW=>HDO.out W b off cs (bu h0 (bu h2 hW)) (hat.keeps (Keeps.of_below (bu h2 hW))) (isElPc.keeps hpc (Keeps.of_below (bu h2 hW)))
 have e0:=cl hbb 0 rfl
 have el:=lt_of_block hbb
 have HBB:=hidq hbb
 have HBC:Hid (∀w3,(∃ev',RS w3 L rb pb lb fuel lc ev' g'∧Kr rb lb ev ev' w w3)→w3.cell? ⟨bb,0,none⟩=some (.pointer (some ⟨rb,0,none⟩))∧bb<w3.heap.size):=fun w3 ⟨ev',_,hk⟩=>by
  have h3:=(hk.kp.block bb hbn (lt_of_block hbb)).trans hbb
  exact⟨cl h3 0 rfl,lt_of_block h3⟩
 clear hR hbb hq hpz hbl hs hbn
 go_enter Tryz.func21,Tryz.ntmps21
 go_region_held3 (fun W=>W.cell? ⟨bb,0,none⟩=some (.pointer (some ⟨rb,0,none⟩))) (go_keep)
  (first
    |(go_at_call 23;refine(HPR.out _ (by exact⟨rfl,rfl,rfl,Nat.le_refl _,fun _ _=>rfl⟩)).mono ?_;rintro x w2 ⟨b,off,cs,rfl,hat,hpc,hb2⟩;have hb3:Below w.heap.size w w2:=bu (by exact⟨rfl,rfl,rfl,Nat.le_refl _,fun _ _=>rfl⟩) hb2;have hk2:=ku hb3 HBB.out;have e2:=cl hk2 0 rfl;have el2:=lt_of_block hk2;have HD2:=hidq (HD3.out _ w2 b off cs (by exact⟨rfl,rfl,rfl,Nat.le_refl _,fun _ _=>rfl⟩) hat hpc hb2);clear hk2 hat hpc hb2 hb3)
    |(go_at_call 22;refine(HD2.out _ (by exact⟨rfl,rfl,rfl,Nat.le_refl _,fun _ _=>rfl⟩)).mono ?_;rintro x w3 ⟨rfl,H3⟩;obtain⟨e3,el3⟩:=HBC.out w3 H3.out))
 go_wp2
 go_end0
 exact⟨rfl,H3⟩
section
open Go.RowKit Go.Maps
theorem look_idle (p:Addr)(w:World):
 CallsD Tryz.prog 83 #[.pointer (some p)] .returning w fun x u' w'=>x=.returned (.tuple #[])∧u'=.returning∧w'=w:=by
 refine callsD_of_wpS Tryz.func83 rfl fun c₀ cs hu=> ?_
 apply wpS_seq
 apply wpS_region
 simp[wpOpsS,go_sem,recoverD,hu,Tryz.ntmps83,Exit.thenS]
 refine wpS_of_wp ?_
 show Code.wp _ _ _ {tmps:=#[.pointer (some p),.nilIface,undef,undef,.nilIface,undef,undef,undef,undef,undef,undef,undef,undef,undef,undef,undef],defers:=[]} w
 go_wp2
 cases c₀
 simp_all [bodyPostS,results,Tryz.results83]
def catchK (fb:Nat):Deferred:={target:=.fn (.func 83) #[.pointer (some ⟨fb,0,none⟩)],args:=#[]}
def KPost (w:World)(x:Ending)(w':World):Prop:=x=.returned (.agg #[.int .i64 0,.int .i64 0])∧Below w.heap.size w w'
theorem look_door {w wz:World}{tm:Array Value}(hb:Below w.heap.size w wz)(hf:wz.heap[w.heap.size]? =some (.cells #[.int .i64 0,.int .i64 0] 45 (0,0)))(h4:tm[4]? =some (.pointer (some ⟨w.heap.size,0,none⟩))):
 Leaves Tryz.prog Tryz.f52 tm (KPost w) [catchK w.heap.size] .returning wz:=by
 refine leaves_cons (f:=83) (args:=#[.pointer (some ⟨w.heap.size,0,none⟩)]) (by simp) (by simp[go_sem]) ?_
 refine(look_idle ⟨w.heap.size,0,none⟩ wz).mono ?_
 rintro x u' w'' ⟨rfl,rfl,hw⟩
 subst hw
 have e0:=cl hf 0 rfl
 have e1:=cl hf 1 rfl
 exact⟨.agg #[.int .i64 0,.int .i64 0],by simp[results,Tryz.results52,go_sem,h4,e0,e1],rfl,hb⟩
theorem lookC {w:World}{pb:Nat}{P:Prg}{cv av nv qv:Value}(hB:∀w1,Below w.heap.size w w1→w1.heap.size=w.heap.size+1→Lb w1 (w.heap.size+1) pb P cv av nv qv)
 (hP:∀(w1 w5:World) (kb:Nat) (X:Nat→Prop),Below w.heap.size w w1→w1.heap.size=w.heap.size+1→Lk w1 w5 (w.heap.size+1) kb pb X P [] [] 0 false 0→Calls Tryz.prog 53 #[.pointer (some ⟨kb,0,none⟩)] w5 fun x w'=>x=.returned (.tuple #[])∧Below (w.heap.size+1) w1 w'):
 Calls Tryz.prog 52 #[.pointer (some ⟨pb,0,none⟩),.func (.func 53) #[] #[]] w (KPost w):=by
 have hmf:=mkF
 have hmm:=@run_makeMap Tryz.prog
 obtain⟨w1,hw1⟩:∃w1,w1=w.alloc (.cells #[.int .i64 0,.int .i64 0] 45):=⟨_,rfl⟩
 have hs1:w1.heap.size=w.heap.size+1:=by rw[hw1];simp
 have HB1:=hidq (al1 hw1)
 have HF1:Hid (w1.heap[w.heap.size]? =some (.cells #[.int .i64 0,.int .i64 0] 45 (0,0))):=aa hw1
 have HLB:=hidq (hB w1 HB1.out hs1)
 have HP:Hid (∀(w5:World) (kb:Nat) (X:Nat→Prop),Lk w1 w5 (w.heap.size+1) kb pb X P [] [] 0 false 0→Calls Tryz.prog 53 #[.pointer (some ⟨kb,0,none⟩)] w5 fun x w'=>x=.returned (.tuple #[])∧Below (w.heap.size+1) w1 w'):=fun w5 kb X h=>hP w1 w5 kb X HB1.out hs1 h
 clear hB hP
 go_enter_defers Tryz.func52,Tryz.ntmps52
 obtain⟨w2,hw2⟩:∃w2,w2=w1.alloc (.map #[] 0):=⟨_,rfl⟩
 obtain⟨w3,hw3⟩:∃w3,w3=w2.alloc (.map #[] 0):=⟨_,rfl⟩
 obtain⟨w4,hw4⟩:∃w4,w4=w3.alloc (.map #[] 0):=⟨_,rfl⟩
 obtain⟨w5,hw5⟩:∃w5,w5=w4.alloc (.cells #[.pointer (some ⟨pb,0,none⟩),.slice none 0 0,.map (some (w.heap.size+1)),.int .i64 0,.map (some (w.heap.size+1+1)),.map (some (w.heap.size+1+1+1))] 167):=⟨_,rfl⟩
 have hs2:w2.heap.size=w.heap.size+2:=by rw[hw2];simp[hs1]
 have hs3:w3.heap.size=w.heap.size+3:=by rw[hw3];simp[hs2]
 have hs4:w4.heap.size=w.heap.size+4:=by rw[hw4];simp[hs3]
 have hs5:w5.heap.size=w.heap.size+5:=by rw[hw5];simp[hs4]
 have hb2:=al1 hw2
 have hb3:=al1 hw3
 have hb4:=al1 hw4
 have hb5:=al1 hw5
 have HLK:Hid (Lk w1 w5 (w.heap.size+1) (w.heap.size+4) pb (fun b=>w.heap.size+1≤b∧b<w.heap.size+5) P [] [] 0 false 0):=by
  have k2:KnM w2 (w.heap.size+1) []:=by rw[hw2,←hs1];exact KnM.made w1
  have a3:MapA w3 (w.heap.size+2) 0:=by rw[hw3,←hs2];exact MapA.made w2
  have r4:w4.heap[w.heap.size+3]? =some (.map #[] 0):=by rw[hw4];exact heap_at_alloc _ _ _ hs3.symm
  have n3:∀b,b<w2.heap.size→w5.heap[b]? =w2.heap[b]? :=fun b hb=>(bu hb3 (bu hb4 hb5)).block b hb
  have n4:∀b,b<w3.heap.size→w5.heap[b]? =w3.heap[b]? :=fun b hb=>(bu hb4 hb5).block b hb
  have n5:∀b,b<w4.heap.size→w5.heap[b]? =w4.heap[b]? :=fun b hb=>hb5.block b hb
  refine⟨none,0,w.heap.size+1,w.heap.size+2,w.heap.size+3,[],?_,?_,?_,k2.keeps (n3 _ (by omega)) (fun p hp=>by cases hp),(fun q hq=>by cases hq),a3.keeps (n4 _ (by omega)),⟨?_,?_,?_⟩,(fun k e=>by cases e),⟨by omega,by omega,by omega⟩,fun _=>⟨?_,0,(n5 _ (by omega)).trans r4⟩,fun b hb=>⟨hb.1,by omega⟩,by simp,by omega,rfl⟩
  ·exact(bu hb2 (bu hb3 (bu hb4 hb5))).mono (by omega)
  ·rw[hw5];exact heap_at_alloc _ _ _ hs4.symm
  ·exact OwnL.nil _ _ _ _ _
  all_goals (constructor<;>omega)
 have hcall:=HP.out w5 (w.heap.size+4) _ HLK.out
 go_wp2_with fail
 rw[←hw1,←hw2,←hw3,←hw4,←hw5]
 refine hcall.mono ?_
 rintro x w6 ⟨rfl,hb6⟩
 have hf6:w6.heap[w.heap.size]? =some (.cells #[.int .i64 0,.int .i64 0] 45 (0,0)):=(hb6.block _ (by omega)).trans HF1.out
 have HB6:Hid (Below w.heap.size w w6):=HB1.out.trans (hb6.mono (by omega))
 clear hcall HLK hw1 hw2 hw3 hw4 hw5 hb2 hb3 hb4 hb5
 have e0:=cl hf6 0 rfl
 have e1:=cl hf6 1 rfl
 have g0:=fz hf6 0
 have g1:=fz hf6 1
 have HF6:=hidq hf6
 clear hf6
 go_wp2
 show Leaves _ _ _ _ _ _ _
 refine look_door ((HB6.out.setCell (Nat.le_refl _) _).setCell (Nat.le_refl _) _) ?_ rfl
 simp[World.setCell,Array.getElem?_modify,HF6.out]
theorem scopeC_of {w:World}{P:Prg}{cv av nv qv:Value}(hLb:∀w1,Below w.heap.size w w1→w1.heap[w.heap.size]? =some (.cells #[cv,av,nv,qv] 27 (0,0))→w1.heap.size=w.heap.size+3→Lb w1 (w.heap.size+3) w.heap.size P cv av nv qv)
 (hP:∀(w1 w5:World) (kb:Nat) (X:Nat→Prop),Below w.heap.size w w1→w1.heap[w.heap.size]? =some (.cells #[cv,av,nv,qv] 27 (0,0))→w1.heap.size=w.heap.size+3→Lk w1 w5 (w.heap.size+3) kb w.heap.size X P [] [] 0 false 0→Calls Tryz.prog 53 #[.pointer (some ⟨kb,0,none⟩)] w5 fun x w'=>x=.returned (.tuple #[])∧Below (w.heap.size+3) w1 w'):
 Calls Tryz.prog 28 #[.agg #[cv,av,nv,qv]] w fun x w'=>x=.returned (.agg #[.int .i64 0,.int .i64 0])∧Below w.heap.size w w':=by
 obtain⟨w1,hw1⟩:∃w1,w1=w.alloc (.cells #[cv,av,nv,qv] 27):=⟨_,rfl⟩
 obtain⟨w2,hw2⟩:∃w2,w2=w1.alloc (.cells #[.int .i64 0,.int .i64 0] 45):=⟨_,rfl⟩
 have hs1:w1.heap.size=w.heap.size+1:=by rw[hw1];simp
 have hs2:w2.heap.size=w.heap.size+2:=by rw[hw2];simp[hs1]
 have hb1:=al1 hw1
 have hb2:=al1 hw2
 have hpr:w2.heap[w.heap.size]? =some (.cells #[cv,av,nv,qv] 27 (0,0)):=ku hb2 (aa hw1)
 have hre:w2.heap[w.heap.size+1]? =some (.cells #[.int .i64 0,.int .i64 0] 45 (0,0)):=by rw[←hs1];exact aa hw2
 have hB2:Below w.heap.size w w2:=bu hb1 hb2
 have hcall:=lookC (w:=w2) (pb:=w.heap.size) (P:=P) (cv:=cv) (av:=av) (nv:=nv) (qv:=qv)
  (fun v hv hz=>by
    have:=hLb v (bu hB2 hv) ((hv.block _ (by omega)).trans hpr) (by omega)
    rw[show w2.heap.size+1=w.heap.size+3 by omega]
    exact this)
  (fun v v5 kb X hv hz hk=>by
    rw[show w2.heap.size+1=w.heap.size+3 by omega] at hk⊢
    exact hP v v5 kb X (bu hB2 hv) ((hv.block _ (by omega)).trans hpr) (by omega) hk)
 have HR:=hidq hre
 have HB2:=hidq hB2
 have HS:=hidq hs2
 clear hLb hP hpr hre hB2 hb1 hb2 hs1
 go_enter Tryz.func28,Tryz.ntmps28
 go_wp2_with fail
 rw[←hw1,←hw2]
 refine hcall.mono ?_
 rintro x w3 ⟨rfl,hb3⟩
 have h3:w3.heap[w.heap.size+1]? =some (.cells #[.int .i64 0,.int .i64 0] 45 (0,0)):=(hb3.block _ (by omega)).trans HR.out
 have HB3:=hidq (bu HB2.out hb3)
 have e0:=cl h3 0 rfl
 have e1:=cl h3 1 rfl
 have g0:=fz h3 0
 have g1:=fz h3 1
 have H3:=hidq h3
 clear hcall hb3 h3 hw1 hw2
 go_wp2
 refine bodyPost_ret (v:=.agg #[.int .i64 0,.int .i64 0]) ?_ rfl ⟨rfl,(HB3.out.setCell (by simp) _).setCell (by simp) _⟩
 have h4:((w3.setCell ⟨w.heap.size+1,0,none⟩ (.int .i64 0)).setCell ⟨w.heap.size+1,1,none⟩ (.int .i64 0)).heap[w.heap.size+1]? =some (.cells #[.int .i64 0,.int .i64 0] 45 (0,0)):=by simp[World.setCell,Array.getElem?_modify,H3.out]
 have q0:=cl h4 0 rfl
 have q1:=cl h4 1 rfl
 simp[results,Tryz.results28,go_sem,q0,q1]
end
theorem scopeC {w:World}{P:Prg}{m n:Nat}{cv av nv qv:Value}(hp:PgIs w (fun b=>b<w.heap.size) P [cv,av,nv,qv])(hl:LevAt w w.heap.size)(hOK:ProgOK P m n):
 Calls Tryz.prog 28 #[.agg #[cv,av,nv,qv]] w fun x w'=>x=.returned (.agg #[.int .i64 0,.int .i64 0])∧Below w.heap.size w w':=by
 have hLb:∀w1,Below w.heap.size w w1→w1.heap[w.heap.size]? =some (.cells #[cv,av,nv,qv] 27 (0,0))→w1.heap.size=w.heap.size+3→Lb w1 (w.heap.size+3) w.heap.size P cv av nv qv:=fun w1 hb h1 hs=>
  ⟨by omega,h1,by omega,(hp.keeps (Keeps.of_below hb)).mono (fun b hb'=>by omega),hOK.few.1,by have:=hOK.few.2;omega⟩
 refine scopeC_of hLb fun w1 w5 kb X hb h1 hs hk=> ?_
 exact programK (hLb w1 hb h1 hs) ((hl.keeps hb.size fun b hb'=>hb.block b hb').mono (by omega)) hOK hk
end Go.Proofs.YtepkhlpjgnckkaaGreatDoor
