/- The document's own reader of programs: what holds within program; room, param. And more of the same. -/
import Derived.Test.YtoiiahpdbcokaaaGreatDoorZD
namespace Go.Proofs.YtoiiahpdbcokaaaGreatDoor
open Go.Value renaming int -> A, slice -> O, string -> H, pointer -> aB
open Go.IntKind renaming i64 -> I
open _root_.Option renaming none -> U, some -> Z
open Go.Addr renaming mk -> Y
open Go.Obj renaming cells -> M
open Go renaming lt_of_block -> J, World -> au, Value -> aw
open Go.RowKit.Below renaming refl -> aF
open _root_.Array renaming getElem?_modify -> dM
open Go.World renaming setCell -> bw
open _root_.Go.Proofs.Tryz
set_option maxRecDepth 100000
set_option maxHeartbeats 8000000
open Go.RowKit
open ag (Tok Tr Po aA nx bI aO gg ba aV cV ii dV bL)
variable {w w' w1 G wc wr:au} {B X bc bn cc cn e fc k k' m nc nn V d pn L qc qn rc rn sb W ty F z:Nat} {ts:List Tok} {bv pv rl v x0 x1 x2 x3 x4 x5 x6 x7 x8:aw} {C:Av} {oy c c' p p' rt:Int} {bl:List Po} {ao bo co fo y qo ro E:Oa} {acc ps:List cV} {R:aA bL} {xs:Lv} {S:Np}
def iX {α:Type}(Q:Prop)(sz:Nat)(El:au->(Np)->α->Lv->Prop)(w:au)(S:Np)(a:α)(cs:Lv):Prop:=(cs.length=sz/\∀u∈cs,u.oneCell'=true)/\(Q->El w S a cs)
theorem dC {a:Type}{Q:Prop}{sz:Nat}{El:au->(Np)->a->Lv->Prop}(K:ng El sz):ng (iX Q sz El) sz:=
 ⟨fun h k=>⟨h.1,fun q=>K.keeps (h.2 q) k⟩,fun h k=>⟨h.1,fun q=>K.mono (h.2 q) k⟩,fun h=>h.1.1,fun h=>h.1.2⟩
structure Dh {α:Type}(w2 wc:au)(tb e:Nat)(ts:List Tok)(v:aw)(R:aA α)(X sb ty:Nat)(C:Av)(K:List Tok->aA α)(k:Nat)(c p:Int):Prop where
 t0:∃k0 c0 p0 b0,Tx w2 tb e ts v k0 c0 p0 b0 0
 gr:w2.grownBy wc (Z tb)
 st:St wc tb e ts v 0 0 R K k c p
 bx:wc.heap[X]? =Z (M #[aB (Z (Y tb 0 U))] 43)
 bE:wc.heap[sb]? =Z (M C ty)
 tl:tb<X
 xl:X<w2.heap.size
 sl:w2.heap.size<=sb
theorem Dh.cells {a:Type}{R:aA a}{K:List Tok->aA a}(h:Dh G wc W e ts v R X sb ty C K k c p):wc.cell? (Y X 0 U)=Z (aB (Z (Y W 0 U)))/\X<wc.heap.size/\sb<wc.heap.size:=by
 have:=h.bx;exact⟨by simp[World.cell?,this],J h.bx,J h.bE⟩
theorem Dh.step {b:Type}{R:aA b}{K d:List Tok->aA b}(h:Dh G wc W e ts v R X sb ty C K k c p)(a:wc.grownBy w' (Z W))(f:St w' W e ts v 0 0 R d k' c' p'):Dh G w' W e ts v R X sb ty C d k' c' p':=by
 have g:=h.tl;have i:=h.xl;have j:=h.sl;exact⟨h.t0,h.gr.trans a,f,(a.block _ (J h.bx) (by simp;omega)).trans h.bx,(a.block _ (J h.bE) (by simp;omega)).trans h.bE,g,i,j⟩
theorem Dh.set {a:Type}{R:aA a}{b:Av}{K:List Tok->aA a}(h:Dh G wc W e ts v R X sb ty C K k c p)(d:Below sb wc w')(i:w'.heap[sb]? =Z (M b ty)):Dh G w' W e ts v R X sb ty b K k c p:=by
 obtain⟨m,c0,n,o,j⟩:=h.t0;have l:=h.xl;have f:=h.sl;have g:=d.mono f;exact⟨h.t0,mh h.gr g,⟨j.past h.gr h.st.1 g,h.st.2⟩,(d.block _ (by omega)).trans h.bx,i,h.tl,l,f⟩
theorem Dh.turn {a:Type}{R:aA a}{K b:List Tok->aA a}(h:Dh G wc W e ts v R X sb ty C K k c p)(d:St wc W e ts v 0 0 R b k' c' p'):Dh G wc W e ts v R X sb ty C b k' c' p':=⟨h.t0,h.gr,d,h.bx,h.bE,h.tl,h.xl,h.sl⟩
theorem Dh.keep {a:Type}{R:aA a}{K:List Tok->aA a}(h:Dh G wc W e ts v R X sb ty C K k c p)(d:wc.grownBy w' (Z W)):aP (fun b=>sb<b) wc w':=aP.bP d fun b f=>by have:=h.tl;have:=h.xl;have:=h.sl;simp;omega
theorem Dh.put {a:Type}{R:aA a}{K:List Tok->aA a}(h:Dh G wc W e ts v R X sb ty C K k c p)(i:Nat)(u:aw):Dh G (wc.setCell (Y sb i U) u) W e ts v R X sb ty (C.setIfInBounds i u) K k c p:=
 h.set ((aF _ _).setCell (by simp) _) (CD h.bE _)
theorem xi {i:Nat}{u:aw}:aP (fun b=>sb<b) w (w.setCell (Y sb i U) u):=⟨by simp[bw],fun b a _=>Below.heap_setCell _ _ _ _ (by show b≠sb;omega)⟩
theorem na {b:Nat}{e:TypeId}(h:w.heap[b]? =Z (M #[x0,x1,x2,x3,x4,x5,x6,x7,x8] e)):(w.cell? (Y b 0 U)=Z x0/\w.cell? (Y b 1 U)=Z x1/\w.cell? (Y b 2 U)=Z x2/\w.cell? (Y b 3 U)=Z x3/\w.cell? (Y b 4 U)=Z x4/\w.cell? (Y b 5 U)=Z x5/\w.cell? (Y b 6 U)=Z x6/\w.cell? (Y b 7 U)=Z x7/\w.cell? (Y b 8 U)=Z x8)/\∀i,w.frozen? (Y b i U)=false:=by
 refine⟨⟨?_,?_,?_,?_,?_,?_,?_,?_,?_⟩,fun i=> ?_⟩<;>simp[World.cell?,World.frozen?,h]
def RmP {α:Type}(w:au)(tb e:Nat)(ts:List Tok)(v:aw)(bl:Int)(R:aA α)(K:List Tok->aA α)(k:Nat)(x:Ending)(w':au):Prop:=x=.returned (.tuple #[])/\w.grownBy w' (Z tb)/\∃k' c' p',St w' tb e ts v bl 0 R K k' c' p'/\(c'=0->k'=k)
theorem Ey {j:Type}{n:Nat}{bl:Int}{R:aA j}{K:List Tok->aA j}(l:n<=m)(a:w.heap[X]? =Z (M #[aB (Z (Y W 0 U))] 43))(h:St w W e ts v bl 0 R (fun r=>if n=m then .no 2 (bI e r) else K r) k c p):
 Calls prog 48 #[A I (n:Int),A I (m:Int),aB (Z (Y X 0 U))] w (RmP w W e ts v bl R K k):=by
 have y:=cl a 0 rfl;have z:=J a;have f:=am h;by_cases hf:n=m
 ·have u:m<=n:=(by omega);have g:=am hf;have o:=wT 2 h.1;clear h a hf l;go_enter func48,ntmps48;go_wp2_with fail;refine o.mono ?_;rintro x w1 ⟨rfl,s⟩;have t:=am s;clear s o;go_wp2
  go_end0
  refine⟨rfl,t.1,?_⟩;have b:=t.2;rcases f.2 with⟨rfl,i⟩|⟨d,rfl,q,rfl,i⟩
  ·rw[if_pos rfl,if_pos rfl] at b;refine⟨_,_,_,⟨b,.inr ⟨by decide,rfl,_,rfl,?_⟩⟩,fun h=>by simp at h⟩;rw[i];simp only;rw[if_pos g.out]
  ·rw[if_neg d,if_neg d] at b;exact⟨_,_,_,⟨b,.inr ⟨d,rfl,q,rfl,i⟩⟩,fun h=>absurd h d⟩
 ·have u:¬m<=n:=(by omega);have g:=am hf;clear h a hf l;go_enter func48,ntmps48;go_wp2
  go_end0
  refine⟨rfl,jh _ _,_,_,_,⟨f.1,f.2.imp (fun h=>⟨h.1,?_⟩) id⟩,fun _=>rfl⟩;rw[h.2];simp only;rw[if_neg g.out]
theorem Ll {a:Type}{bl al:Int}{R:aA a}{K:Nat->List Tok->aA a}(d:ag.Good ts){s:Lu}(f:ag.Fix s)(g:s≠[])(i:c=0->aO s (ts.drop k)=true)(h:St w W e ts v bl al R (fun r=>(ag.aR e s r).bind K) k c p):
 Calls prog 50 #[aB (Z (Y W 0 U)),H (ba s)] w fun x w'=>∃b,x=.returned (.bool b)/\AB w W e ts v bl al R (K (nx (ts.drop k)).2.1) w':=by
 refine(tG d f g h).mono ?_;rintro x w' ⟨rfl,l,m,n⟩;refine⟨_,rfl,l,?_⟩;rcases h.2 with⟨rfl,j⟩|⟨o,rfl,q,rfl,j⟩
 ·obtain⟨_,t,u,y⟩:=m (i rfl);refine⟨_,_,_,y,.inl ⟨rfl,?_⟩⟩;rw[u];show(ag.aR e s (ts.drop k)).bind K=_;unfold ag.aR;rw[if_pos (i rfl),drop_tail];rfl
 ·have z:aO s (ts.drop ts.length)=false:=(by rw[<-np d f g];exact zZ _ _);obtain⟨B,t⟩:=n z;exact⟨_,_,_,B,.inr ⟨o,rfl,q,rfl,j⟩⟩
def Uj {α:Type}(w2:au)(tb e:Nat)(ts:List Tok)(v:aw)(R:aA α)(X qb:Nat)(oy:Int)(nm:Bt)(acc:List cV)(K:cV->List Tok->aA α)(x:Ending)(w':au):Prop:=x=.returned (.tuple #[])/\∃(po:Oa) (pn pc:Nat) (a:cV) (k:Nat) (c p:Int),Dh w2 w' tb e ts v R X qb 65 #[A I oy,H nm,O po pn pc,H ⟨#[]⟩,A I 0,O U 0 0,O U 0 0,O U 0 0,O U 0 0] (K a) k c p/\bO (iX (aY R) 3 fW) w' (qb+1) 60 3 (O po pn pc) (acc++[a])
theorem XP {ad:Type}{R:aA ad}{nm:Bt}{K:cV->List Tok->aA ad}(gM:ag.Good ts)(gK:qx ts)(g:Dh G w W e ts v R X L 65 #[A I oy,H nm,O y pn d,H ⟨#[]⟩,A I 0,O U 0 0,O U 0 0,O U 0 0,O U 0 0] (fun r=>(ag.gY e r).bind K) k c p)(hO:bO (iX (aY R) 3 fW) w (L+1) 60 3 (O y pn d) acc)(hl:acc.length<=6):
 Calls prog 55 #[aB (Z (Y X 0 U)),aB (Z (Y L 0 U))] w (Uj G W e ts v R X L oy nm acc K):=by
 have dK:Hid (ag.Good ts):=gM;have jH:Hid (qx ts):=gK;have S:Hid (Dh G w W e ts v R X L 65 #[A I oy,H nm,O y pn d,H ⟨#[]⟩,A I 0,O U 0 0,O U 0 0,O U 0 0,O U 0 0] (fun r=>(ag.gY e r).bind K) k c p):=g;obtain⟨E,jN,yO,iM⟩:=hO.ex;obtain⟨B,ar,m⟩:=hO.slice;cases m;have HO:Hid (w.ownsRow (L+1) 60 3 (O y acc.length d) acc.length E.flatten/\E.length=acc.length/\∀i (h:i<acc.length) (h':i<E.length),iX (aY R) 3 fW w (SB (L+1) (O y acc.length d)) acc[i] E[i]):=⟨jN,yO,iM⟩;have Zu:=J g.bx;have ae:=J g.bE;have ga:=g.tl;have Zv:X<L:=(by have:=g.xl;have:=g.sl;omega);obtain⟨hx,_,_⟩:=g.cells;have di:St w W e ts v 0 0 R (fun r=>(ag.bR e r).bind fun s r1=>(ag.aR e [58] r1).bind fun _ r2=>(ag.kn e r2).bind fun t T=>(ag.fX e T).bind fun l f=>K ⟨s,t,l⟩ f) k c p:=(by refine⟨g.st.1,g.st.2.imp (fun h=>⟨h.1,?_⟩) id⟩;rw[h.2];simp only[ag.gY,ag.nO,iU];rfl);have ew:=qT gK di;clear gM gK g hO jN yO iM di;go_enter func55,ntmps55;go_wp2_with fail;refine ew.mono ?_;rintro x w1 ⟨s,rfl,ct,aZ,k1,c1,p1,eY⟩;have ZS:Hid (s.size<=maxLen):=ct;obtain⟨b,E1⟩:∃b,b=w1.heap.size:=⟨_,rfl⟩;obtain⟨wA,nw⟩:∃wA,wA=w1.alloc (M #[H s,A I 0,O U 0 0] 60):=⟨_,rfl⟩;have jX:Bl w1 wA:=(by rw[nw];exact(aF _ _).alloc (Nat.le_refl _) _);have xr:=aZ.size;have DA:Hid (Dh w wA W e ts v R X b 60 #[H s,A I 0,O U 0 0] (fun r=>(ag.aR e [58] r).bind fun _ r2=>(ag.kn e r2).bind fun t T=>(ag.fX e T).bind fun l f=>K ⟨s,t,l⟩ f) k1 c1 p1):=(by refine⟨⟨_,_,_,_,S.st.1⟩,aZ.trans (dN _ jX),eY.later jX,(jX.block _ (by omega)).trans ((aZ.block _ Zu (by simp;omega)).trans S.bx),by rw[nw,E1];exact cu _ _ _ rfl,ga,Zu,by omega⟩);have av:L<b:=(by omega);clear ew aZ eY jX ct hx xr;obtain⟨hx,C,m⟩:=DA.cells;have eI:=oK (s:=[58]) dK.out (ji (by decide)) (by decide) DA.st;go_upto_region 1 with fail
 rw[<-nw,<-E1];clear nw E1;go_wp2_with fail;refine eI.mono ?_;rintro x w3 ⟨rfl,bY,k3,c3,p3,kq⟩;have D3:Hid (Dh w w3 W e ts v R X b 60 #[H s,A I 0,O U 0 0] (fun r=>(ag.kn e r).bind fun t T=>(ag.fX e T).bind fun l f=>K ⟨s,t,l⟩ f) k3 c3 p3):=DA.step bY kq;clear eI bY kq hx C m;obtain⟨hx,C,m⟩:=D3.cells;have qm:=NC dK.out D3.st;go_wp2_with fail;refine qm.mono ?_;rintro x w4 ⟨ty,rfl,dg,k4,c4,p4,ie⟩;have D4:Hid (Dh w w4 W e ts v R X b 60 #[H s,A I 0,O U 0 0] (fun r=>(ag.fX e r).bind fun l f=>K ⟨s,ty,l⟩ f) k4 c4 p4):=D3.step dg ie;clear qm dg ie hx C m;obtain⟨w5,gi⟩:∃w5,w5=w4.setCell (Y b 1 U) (A I ty):=⟨_,rfl⟩;have D5:Hid (Dh w w5 W e ts v R X b 60 #[H s,A I ty,O U 0 0] (fun r=>(ag.fX e r).bind fun l f=>K ⟨s,ty,l⟩ f) k4 c4 p4):=(by rw[gi];exact D4.put 1 (A I ty));obtain⟨hx,C,m⟩:=D4.cells;obtain⟨⟨_,a1,_⟩,V⟩:=ox D4.bE;have bZ:=V.2.1;have bh:X≠b:=(by omega);have uu:=ES dK.out jH.out D5.st;clear V;go_wp2_with fail;rw[<-gi];clear gi hx C m a1 bZ;refine uu.mono ?_;rintro x w6 ⟨n,o,q,rfl,ou,F,k6,c6,p6,Fd,ef⟩;have D6:Hid (Dh w w6 W e ts v R X b 60 #[H s,A I ty,O U 0 0] (fun f=>K ⟨s,ty,F⟩ f) k6 c6 p6):=D5.step ou Fd;have Vt:Hid (aY R->dw w6 (fun N=>b<N) (O n o q) F):=fun u=>dw.mono (ef u) fun N hb _=>(by have:=D5.cells.2.2;omega);clear uu ou Fd ef;obtain⟨j,NT⟩:∃j,j=w6.setCell (Y b 2 U) (O n o q):=⟨_,rfl⟩;have z:Hid (Dh w j W e ts v R X b 60 #[H s,A I ty,O n o q] (fun f=>K ⟨s,ty,F⟩ f) k6 c6 p6):=(by rw[NT];exact D6.put 2 (O n o q));have Mk:Hid (aY R->dw j (fun N=>b<N) (O n o q) F):=fun u=>(by rw[NT];exact(Vt.out u).keeps xi);obtain⟨hx,C,m⟩:=D6.cells;obtain⟨⟨_,_,a2⟩,V⟩:=ox D6.bE;have bA:=V.2.2;obtain⟨⟨b0,b1,b2⟩,_⟩:=ox z.bE;have Il:j.heap[L]? =Z (M #[A I oy,H nm,O y acc.length d,H ⟨#[]⟩,A I 0,O U 0 0,O U 0 0,O U 0 0,O U 0 0] 65):=(z.gr.block _ ae (by simp;omega)).trans S.bE;obtain⟨cq,fq⟩:=na Il
 have ax:=cq.2.2.1;have HP:Hid (j.ownsRow (L+1) 60 3 (O y acc.length d) acc.length E.flatten):=vx HO.1 z.gr (by omega);obtain⟨i0,gT,cL,bZ,NJ⟩:=info_parts Tryz.Zn;have vF:=z.cells.2.2;have jW:=J Il;clear V cq fq Il;go_upto_region 4 with fail
 rw[<-NT];clear NT hx C m a2 bA;go_wp2_with (at_builtin;refine wpList_append_own_at _ rfl _ _ 62 rfl (L+1) 60 i0 (.agg #[H ⟨#[]⟩,A I 0,O U 0 0]) 3 48 underlying62 gT cL bZ NJ rfl (by decide) _ _ _ rfl (World.ownsRow.alloc HP.out _) (Y j.heap.size 0 U) 1 1 [H s,A I ty,O n o q] rfl rfl ?c1 ?c2 ?c3 ?c4 ?c5 ?_);case c1=>exact Yh _ _
 case c2=>intro ao hu;simp only[List.mem_cons,List.not_mem_nil,or_false] at hu;rcases hu with rfl | rfl | rfl<;>rfl
 case c3=>unfold maxLen;omega
 case c4=>omega
 case c5=>simp;omega
 intro u' w9 gu fG _ gB;obtain⟨B,P,rfl⟩:∃B P,u'=O B (acc.length+1) P:=nt gu;have bD:Bl j (j.alloc (M #[H s,A I ty,O n o q] 60)):=(aF _ _).alloc (Nat.le_refl _) _;have hL:=HP.lt;have fI:=(bD.mono (by omega)).grown fG (by have:=bD.size;omega) (fun k u=>(hL k u).1);have OK:=(fI.block _ (by omega)).trans ((z.gr.block _ ae (by simp;omega)).trans S.bE);obtain⟨af,ai⟩:=na OK;have ay:=af.2.2.1;have aG:=ai 2;have kU:=J OK;have HF:Hid (Uj G W e ts v R X L oy nm acc K (.returned (.tuple #[])) (w9.setCell (Y L 2 U) (O B (acc.length+1) P))):=by
  have iB:Below L w9 (w9.setCell (Y L 2 U) (O B (acc.length+1) P)):=(aF _ _).setCell (by simp) _;refine⟨rfl,B,acc.length+1,P,⟨s,ty,F⟩,k6,c6,p6,?_,?_⟩
  ·have e1:=S.step z.gr z.st;exact(e1.set (fI.mono (by omega)) OK).put 2 (O B (acc.length+1) P)
  ·have e2:=bO.add (dC (Q:=aY R) ic) (w:=w) (w1:=j.alloc (M #[H s,A I ty,O n o q] 60)) (css:=E) (a:=(⟨s,ty,F⟩:cV)) (xs:=[H s,A I ty,O n o q]) (fun k u=>(HO.1.lt k u).2) HO.2.1 (fun i hi cY=>(dC ic).keeps (HO.2.2 i hi cY) (aP.bP (z.gr.trans (dN _ bD)) fun N hb=>by have:=hb.1;simp;omega)) ⟨⟨rfl,fun ao hu=>by simp only[List.mem_cons,List.not_mem_nil,or_false] at hu;rcases hu with rfl | rfl | rfl<;>rfl⟩,fun u=>⟨_,rfl,ZS.out,((Mk.out u).keeps (aP.bm bD)).mono fun N hb _=>by have:=z.sl;omega⟩⟩ (by omega) gu fG (by simpa using gB);exact e2.grown (dC ic) (rb:=L) (eR (jh _ _) rfl _) (by omega)
 clear gu fG gB bD fI OK af ai hL;go_wp2
 go_end0
 exact HF.out
open ag (aV cV ii dV bL Tok Po Tr nx bI aO ba aA)
theorem Tryz.Zl:(prog.info? 65).map (fun i=>(i.zero,i.size,i.bytes))=Z (Z (.agg #[A I 0,H ⟨#[]⟩,O U 0 0,H ⟨#[]⟩,A I 0,O U 0 0,O U 0 0,O U 0 0,O U 0 0]),9,168):=by kernel_rfl
def VQ (B:Nat)(w':au)(a:dV)(u:aw):Prop:=∃(z0:Int) (z1:Bt) (z2:Oa) (m2 d2:Nat) (z3:Bt) (z4:Int) (z5:Oa) (m5 d5:Nat) (z6:Oa) (m6 d6:Nat) (z7:Oa) (m7 d7:Nat) (z8:Oa) (m8 d8:Nat),u=.agg #[A I z0,H z1,O z2 m2 d2,H z3,A I z4,O z5 m5 d5,O z6 m6 d6,O z7 m7 d7,O z8 m8 d8]/\nH w' (fun b=>B<=b) a [A I z0,H z1,O z2 m2 d2,H z3,A I z4,O z5 m5 d5,O z6 m6 d6,O z7 m7 d7,O z8 m8 d8]
theorem Yf (w:au)(e:TypeId):∀j u,([x0,x1,x2,x3,x4,x5,x6,x7,x8]:Lv)[j]? =Z u->(w.alloc (M #[x0,x1,x2,x3,x4,x5,x6,x7,x8] e)).cell? (((Y w.heap.size 0 U):Addr).add j)=Z u:=by
 intro j u a;have b:(w.alloc (M #[x0,x1,x2,x3,x4,x5,x6,x7,x8] e)).cell? (Y w.heap.size j U)=(#[x0,x1,x2,x3,x4,x5,x6,x7,x8]:Av)[j]? :=World.cell?_alloc_at _ _ _ _ (by simp);have c:((Y w.heap.size 0 U):Addr).add j=(Y w.heap.size j U):=(by simp[Addr.add];intro h;exact h.symm);rw[c,b];simpa using a
theorem aiC {rb:Nat}{bl b:Int}(h:Rd w rb e bl b ts v){n:Nat}{lv:aw}{css:List (Lv)}(Q:w.ownsRow B 65 9 lv n css.flatten)(jw:rb<B)(S:B<=w.heap.size)(a:Nat)(hm:a<=1000)(nX:n<=a)
 (g:Nat) (fs T:Av) (eg:∀args w,(callFunc g args).run prog w=.ok (.enter g args) w) (f:aA dV) (V:Calls prog g (fs++T) w (dS w rb e bl b f (VQ w.heap.size))):
 Calls prog 38 #[aB (Z (Y rb 0 U)),lv,A I (a:Int),.func (.func g) fs T] w (se nH w rb e bl b B 65 9 a n css lv ts f):=by
 obtain⟨ao,c,rfl⟩:=nt Q;have ad:Hid (Rd w rb e bl b ts v):=h;have HO:Hid (w.ownsRow B 65 9 (O ao n c) n css.flatten):=Q;have HB:Hid (B<=w.heap.size):=S;clear h Q S;by_cases hf:n=a
 ·have hi:((n:Int)==(a:Int))=true:=(by simp[hf]);have i:Hid (n=a):=hf;clear hf V;go_enter func38,ntmps38;go_wp2_with fail;refine(tJ _ ad.out).mono ?_;rintro x G ⟨rfl,bS⟩;subst bS;exact⟨rfl,.inl ⟨i.out,rfl,rfl⟩⟩
 ·have hi:((n:Int)==(a:Int))=false:=(by simp;omega);have i:Hid (n≠a):=hf;obtain⟨i0,gT,cL,bZ,bA⟩:=info_parts Tryz.Zl;have jO:n<1000:=(by omega);clear hf;go_enter func38,ntmps38;go_wp2_with fail;refine V.mono ?_;rintro x w1 ⟨d,⟨R,r,j,af,k,rfl,⟨l,m,o,p,d2,s,t,u,y,d5,z,C,d6,E,F,d7,K,L,d8,rfl,hx⟩,N⟩|⟨cc,q,j,rfl,r,k,N⟩⟩
  ·have HG:Hid (w.grownBy w1 (Z rb)):=d;have sk:Hid (f=.ok R r):=j;have W:Hid (Rd w1 rb e bl b r k):=N;have X:Hid (nH w1 (fun ae=>w.heap.size<=ae) R [A I l,H m,O o p d2,H s,A I t,O u y d5,O z C d6,O E F d7,O K L d8]):=hx;have HP:Hid (w1.ownsRow B 65 9 (O ao n c) n css.flatten):=vx HO.out d jw;have xr:w.heap.size<=w1.heap.size:=d.size;clear d N hx j;go_wp2_with (at_builtin;refine wpList_append_own_at _ rfl _ _ 25 rfl B 65 i0 (.agg #[A I 0,H ⟨#[]⟩,O U 0 0,H ⟨#[]⟩,A I 0,O U 0 0,O U 0 0,O U 0 0,O U 0 0]) 9 168 underlying25 gT cL bZ bA rfl (by decide) _ _ _ rfl (World.ownsRow.alloc HP.out _) (Y w1.heap.size 0 U) 1 1 [A I l,H m,O o p d2,H s,A I t,O u y d5,O z C d6,O E F d7,O K L d8] rfl rfl ?c1 ?c2 ?c3 ?c4 ?c5 ?_);case c1=>exact Yf _ _
   case c2=>exact gh.one X.out
   case c3=>unfold maxLen;omega
   case c4=>omega
   case c5=>have:=HB.out;simp;omega
   ·intro u' G gu fG _ gB;have P:Bl w1 (w1.alloc (M #[A I l,H m,O o p d2,H s,A I t,O u y d5,O z C d6,O E F d7,O K L d8] 65)):=(aF _ _).alloc (Nat.le_refl _) _;have HN:Hid (se nH w rb e bl b B 65 9 a n css (O ao n c) ts f (.returned u') G):=.inr ⟨i.out,.inr ⟨R,r,u',k,[A I l,H m,O o p d2,H s,A I t,O u y d5,O z C d6,O E F d7,O K L d8],_,sk.out,rfl,HG.trans (dN _ P),gh.keeps X.out (aP.bm P),fG,gu,by simpa using gB,W.keeps P W.lt⟩⟩;clear gu fG gB P;go_wp2;go_ret;exact HN.out
  ·exact⟨rfl,.inr ⟨i.out,.inl ⟨cc,q,j,rfl,d,r,k,N⟩⟩⟩
open ag (Tok Po Tr nx bI aO ba aA aV cV ii dV bL)
structure nd (w wr:au)(tb pb:Nat)(R:aA bL)(p:bL)(X:Nat->Np)(co:Oa)(cn cc:Nat)(ao:Oa)(an ac:Nat)(no:Oa)(nn nc:Nat)(qo:Oa)(qn qc:Nat):Prop where
 bx:wr.heap[w.heap.size]? =Z (M #[aB (Z (Y tb 0 U))] 43)
 n:wr.heap[w.heap.size+1]? =Z (M #[O U 0 0,O U 0 0,O U 0 0,O U 0 0] 27)
 s:wr.heap[pb]? =Z (M #[O co cn cc,O ao an ac,O no nn nc,O qo qn qc] 27)
 l0:iV (iX (aY R) 1 jm) wr (pb+1) 9 1 (X 0) (O co cn cc) p.dl
 l1:iV (iX (aY R) 2 uf) wr (pb+1) 55 2 (X 1) (O ao an ac) p.cZ
 l2:iV (iX (aY R) 5 pu) wr (pb+1) 57 5 (X 2) (O no nn nc) p.bz
 l3:iV (iX (aY R) 9 nH) wr (pb+1) 65 9 (X 3) (O qo qn qc) p.procs
 dj:∀i j b,X i b->X j b->i=j
 up:∀i b,X i b->pb<b/\b<wr.heap.size
 gr:w.grownBy wr (Z tb)
 tl:tb<w.heap.size
 pl:pb=w.heap.size+2
theorem nd.step {p:bL}{X:Nat->Np}{an ac:Nat}{no:Oa}(h:nd w wr W V R p X co cn cc ao an ac no nn nc qo qn qc)(a:wr.grownBy w' (Z W)):nd w w' W V R p X co cn cc ao an ac no nn nc qo qn qc:=by
 have d:=a.size;have e:=J h.s;have f:=h.tl;have g:=h.pl;have b:∀j k,Z W=Z k->¬X j k:=fun j k l hx=>(by cases l;have:=(h.up j W hx).1;omega);exact⟨(a.block _ (J h.bx) (by simp;omega)).trans h.bx,(a.block _ (J h.n) (by simp;omega)).trans h.n,(a.block _ e (by simp;omega)).trans h.s,h.l0.step (dC fe) a (b 0),h.l1.step (dC ia) a (b 1),h.l2.step (dC gy) a (b 2),h.l3.step (dC gh) a (b 3),h.dj,fun i c hx=>⟨(h.up i c hx).1,Nat.lt_of_lt_of_le (h.up i c hx).2 d⟩,h.gr.trans a,f,g⟩
theorem nd.Ub {p:bL}{X:Nat->Np}{an ac:Nat}{no:Oa}{css:List (Lv)}{a:Bt}(h:nd w wr W V R p X co cn cc ao an ac no nn nc qo qn qc)(B:css.length=p.dl.length)(C:∀i (h:i<p.dl.length) (h':i<css.length),(iX (aY R) 1 jm) wr (fun b=>X 0 b/\Z b≠(O co cn cc:aw).ownBlock) p.dl[i] css[i])
 (e:wr.grownBy w1 (Z W)) (hx:(iX (aY R) 1 jm) w1 (fun b=>wr.heap.size<=b) a xs) (d:w1.grownBy w' (O co cn cc:aw).ownBlock) (G:w'.ownsRow (V+1) 9 1 (O E z F) (p.dl.length+1) (css.flatten++xs)) (K:(Value.slice E z F).ownBlock=(O co cn cc:aw).ownBlock\/(Value.slice E z F).ownBlock=Z w1.heap.size):
 nd w (w'.setCell (Y V 0 U) (O E z F)) W V R {p with dl:=p.dl++[a]} (fun j b=>X j b\/(j=0/\wr.heap.size<=b/\b<w'.heap.size)) E z F ao an ac no nn nc qo qn qc/\Below (V+1) w1 w':=by
 have hz:=e.size;have bA:=d.size;have L:=J h.s;have N:=h.tl;have q:=h.pl;have r:=h.l0.own;have P:∀k,(O co cn cc:aw).ownBlock=Z k->V<k:=fun k c=>(h.up 0 k (r k c)).1;have l:∀j,¬X j W:=fun j hx=>(by have:=(h.up j W hx).1;omega);have m:∀j,¬X j V:=fun j hx=>(by have:=(h.up j V hx).1;omega);have g:Below (V+1) w1 w':=⟨d.os,d.tape,d.output,d.size,fun k c=>d.block k (by omega) (fun Q=>by have:=P k Q.symm;omega)⟩;have x:(w'.setCell (Y V 0 U) (O E z F)).heap.size=w'.heap.size:=(by simp[bw]);have o:w'.grownBy (w'.setCell (Y V 0 U) (O E z F)) (Z V):=eR (jh _ _) rfl _;have t:Below V w' (w'.setCell (Y V 0 U) (O E z F)):=(aF _ _).setCell (by simp) _;have S:=(g.block _ (by omega)).trans ((e.block _ L (by simp;omega)).trans h.s);have u:∀j,j≠0->∀k,(O co cn cc:aw).ownBlock=Z k->¬X j k:=fun j T k c hx=>T (h.dj j 0 k hx (r k c));refine⟨⟨?_,?_,?_,(((iV.add (dC fe) r B C (fun b hx=>(h.up 0 b hx).2) (l 0) e hx d G K).mono (dC fe) (X':=fun b=>X 0 b\/(0=0/\wr.heap.size<=b/\b<w'.heap.size)) fun b hx hl=>hx.imp id fun q=>⟨rfl,q,hl⟩).step (dC fe) o fun k c hx=>by cases c;rcases hx with hx |⟨_,hx,_⟩;exact m 0 hx;omega),((((h.l1.step (dC ia) e fun k c=>by cases c;exact l 1).step (dC ia) d (u 1 (by decide))).step (dC ia) o fun k c=>by cases c;exact m 1).mono (dC ia) fun b hx _=>.inl hx),((((h.l2.step (dC gy) e fun k c=>by cases c;exact l 2).step (dC gy) d (u 2 (by decide))).step (dC gy) o fun k c=>by cases c;exact m 2).mono (dC gy) fun b hx _=>.inl hx),((((h.l3.step (dC gh) e fun k c=>by cases c;exact l 3).step (dC gh) d (u 3 (by decide))).step (dC gh) o fun k c=>by cases c;exact m 3).mono (dC gh) fun b hx _=>.inl hx),?_,?_,mh (h.gr.trans e) (((g.mono (by omega)).trans (t.mono (by omega)))),N,q⟩,g⟩
 ·rw[t.block _ (by omega),g.block _ (by omega),e.block _ (by have:=J h.bx;omega) (by simp;omega)];exact h.bx
 ·rw[t.block _ (by omega),g.block _ (by omega),e.block _ (by have:=J h.n;omega) (by simp;omega)];exact h.n
 ·simp[bw,dM,S]
 ·rintro i1 j1 b (f |⟨rfl,f,y⟩) (v |⟨rfl,v,BO⟩)
  ·exact h.dj _ _ b f v
  ·have:=(h.up _ b f).2;omega
  ·have:=(h.up _ b v).2;omega
  ·rfl
 ·rintro i1 b (f |⟨rfl,f,y⟩)
  ·have:=h.up _ b f;rw[x];omega
  ·rw[x];exact⟨by omega,y⟩
theorem nd.Ua {p:bL}{X:Nat->Np}{an ac:Nat}{no:Oa}{css:List (Lv)}{a:Bt×Bt}(h:nd w wr W V R p X co cn cc ao an ac no nn nc qo qn qc)(B:css.length=p.cZ.length)(C:∀i (h:i<p.cZ.length) (h':i<css.length),(iX (aY R) 2 uf) wr (fun b=>X 1 b/\Z b≠(O ao an ac:aw).ownBlock) p.cZ[i] css[i])
 (e:wr.grownBy w1 (Z W)) (hx:(iX (aY R) 2 uf) w1 (fun b=>wr.heap.size<=b) a xs) (d:w1.grownBy w' (O ao an ac:aw).ownBlock) (G:w'.ownsRow (V+1) 55 2 (O E z F) (p.cZ.length+1) (css.flatten++xs)) (K:(Value.slice E z F).ownBlock=(O ao an ac:aw).ownBlock\/(Value.slice E z F).ownBlock=Z w1.heap.size):
 nd w (w'.setCell (Y V 1 U) (O E z F)) W V R {p with cZ:=p.cZ++[a]} (fun j b=>X j b\/(j=1/\wr.heap.size<=b/\b<w'.heap.size)) co cn cc E z F no nn nc qo qn qc/\Below (V+1) w1 w':=by
 have hz:=e.size;have bA:=d.size;have L:=J h.s;have N:=h.tl;have q:=h.pl;have r:=h.l1.own;have P:∀k,(O ao an ac:aw).ownBlock=Z k->V<k:=fun k c=>(h.up 1 k (r k c)).1;have l:∀j,¬X j W:=fun j hx=>(by have:=(h.up j W hx).1;omega);have m:∀j,¬X j V:=fun j hx=>(by have:=(h.up j V hx).1;omega);have g:Below (V+1) w1 w':=⟨d.os,d.tape,d.output,d.size,fun k c=>d.block k (by omega) (fun Q=>by have:=P k Q.symm;omega)⟩;have x:(w'.setCell (Y V 1 U) (O E z F)).heap.size=w'.heap.size:=(by simp[bw]);have o:w'.grownBy (w'.setCell (Y V 1 U) (O E z F)) (Z V):=eR (jh _ _) rfl _;have t:Below V w' (w'.setCell (Y V 1 U) (O E z F)):=(aF _ _).setCell (by simp) _;have S:=(g.block _ (by omega)).trans ((e.block _ L (by simp;omega)).trans h.s);have u:∀j,j≠1->∀k,(O ao an ac:aw).ownBlock=Z k->¬X j k:=fun j T k c hx=>T (h.dj j 1 k hx (r k c));refine⟨⟨?_,?_,?_,((((h.l0.step (dC fe) e fun k c=>by cases c;exact l 0).step (dC fe) d (u 0 (by decide))).step (dC fe) o fun k c=>by cases c;exact m 0).mono (dC fe) fun b hx _=>.inl hx),(((iV.add (dC ia) r B C (fun b hx=>(h.up 1 b hx).2) (l 1) e hx d G K).mono (dC ia) (X':=fun b=>X 1 b\/(1=1/\wr.heap.size<=b/\b<w'.heap.size)) fun b hx hl=>hx.imp id fun q=>⟨rfl,q,hl⟩).step (dC ia) o fun k c hx=>by cases c;rcases hx with hx |⟨_,hx,_⟩;exact m 1 hx;omega),((((h.l2.step (dC gy) e fun k c=>by cases c;exact l 2).step (dC gy) d (u 2 (by decide))).step (dC gy) o fun k c=>by cases c;exact m 2).mono (dC gy) fun b hx _=>.inl hx),((((h.l3.step (dC gh) e fun k c=>by cases c;exact l 3).step (dC gh) d (u 3 (by decide))).step (dC gh) o fun k c=>by cases c;exact m 3).mono (dC gh) fun b hx _=>.inl hx),?_,?_,mh (h.gr.trans e) (((g.mono (by omega)).trans (t.mono (by omega)))),N,q⟩,g⟩
 ·rw[t.block _ (by omega),g.block _ (by omega),e.block _ (by have:=J h.bx;omega) (by simp;omega)];exact h.bx
 ·rw[t.block _ (by omega),g.block _ (by omega),e.block _ (by have:=J h.n;omega) (by simp;omega)];exact h.n
 ·simp[bw,dM,S]
 ·rintro i1 j1 b (f |⟨rfl,f,y⟩) (v |⟨rfl,v,BO⟩)
  ·exact h.dj _ _ b f v
  ·have:=(h.up _ b f).2;omega
  ·have:=(h.up _ b v).2;omega
  ·rfl
 ·rintro i1 b (f |⟨rfl,f,y⟩)
  ·have:=h.up _ b f;rw[x];omega
  ·rw[x];exact⟨by omega,y⟩
theorem nd.LM {p:bL}{X:Nat->Np}{an ac:Nat}{no:Oa}{css:List (Lv)}{a:ii}(h:nd w wr W V R p X co cn cc ao an ac no nn nc qo qn qc)(B:css.length=p.bz.length)(C:∀i (h:i<p.bz.length) (h':i<css.length),(iX (aY R) 5 pu) wr (fun b=>X 2 b/\Z b≠(O no nn nc:aw).ownBlock) p.bz[i] css[i])
 (e:wr.grownBy w1 (Z W)) (hx:(iX (aY R) 5 pu) w1 (fun b=>wr.heap.size<=b) a xs) (d:w1.grownBy w' (O no nn nc:aw).ownBlock) (G:w'.ownsRow (V+1) 57 5 (O E z F) (p.bz.length+1) (css.flatten++xs)) (K:(Value.slice E z F).ownBlock=(O no nn nc:aw).ownBlock\/(Value.slice E z F).ownBlock=Z w1.heap.size):
 nd w (w'.setCell (Y V 2 U) (O E z F)) W V R {p with bz:=p.bz++[a]} (fun j b=>X j b\/(j=2/\wr.heap.size<=b/\b<w'.heap.size)) co cn cc ao an ac E z F qo qn qc/\Below (V+1) w1 w':=by
 have hz:=e.size;have bA:=d.size;have L:=J h.s;have N:=h.tl;have q:=h.pl;have r:=h.l2.own;have P:∀k,(O no nn nc:aw).ownBlock=Z k->V<k:=fun k c=>(h.up 2 k (r k c)).1;have l:∀j,¬X j W:=fun j hx=>(by have:=(h.up j W hx).1;omega);have m:∀j,¬X j V:=fun j hx=>(by have:=(h.up j V hx).1;omega);have g:Below (V+1) w1 w':=⟨d.os,d.tape,d.output,d.size,fun k c=>d.block k (by omega) (fun Q=>by have:=P k Q.symm;omega)⟩;have x:(w'.setCell (Y V 2 U) (O E z F)).heap.size=w'.heap.size:=(by simp[bw]);have o:w'.grownBy (w'.setCell (Y V 2 U) (O E z F)) (Z V):=eR (jh _ _) rfl _;have t:Below V w' (w'.setCell (Y V 2 U) (O E z F)):=(aF _ _).setCell (by simp) _;have S:=(g.block _ (by omega)).trans ((e.block _ L (by simp;omega)).trans h.s);have u:∀j,j≠2->∀k,(O no nn nc:aw).ownBlock=Z k->¬X j k:=fun j T k c hx=>T (h.dj j 2 k hx (r k c));refine⟨⟨?_,?_,?_,((((h.l0.step (dC fe) e fun k c=>by cases c;exact l 0).step (dC fe) d (u 0 (by decide))).step (dC fe) o fun k c=>by cases c;exact m 0).mono (dC fe) fun b hx _=>.inl hx),((((h.l1.step (dC ia) e fun k c=>by cases c;exact l 1).step (dC ia) d (u 1 (by decide))).step (dC ia) o fun k c=>by cases c;exact m 1).mono (dC ia) fun b hx _=>.inl hx),(((iV.add (dC gy) r B C (fun b hx=>(h.up 2 b hx).2) (l 2) e hx d G K).mono (dC gy) (X':=fun b=>X 2 b\/(2=2/\wr.heap.size<=b/\b<w'.heap.size)) fun b hx hl=>hx.imp id fun q=>⟨rfl,q,hl⟩).step (dC gy) o fun k c hx=>by cases c;rcases hx with hx |⟨_,hx,_⟩;exact m 2 hx;omega),((((h.l3.step (dC gh) e fun k c=>by cases c;exact l 3).step (dC gh) d (u 3 (by decide))).step (dC gh) o fun k c=>by cases c;exact m 3).mono (dC gh) fun b hx _=>.inl hx),?_,?_,mh (h.gr.trans e) (((g.mono (by omega)).trans (t.mono (by omega)))),N,q⟩,g⟩
 ·rw[t.block _ (by omega),g.block _ (by omega),e.block _ (by have:=J h.bx;omega) (by simp;omega)];exact h.bx
 ·rw[t.block _ (by omega),g.block _ (by omega),e.block _ (by have:=J h.n;omega) (by simp;omega)];exact h.n
 ·simp[bw,dM,S]
 ·rintro i1 j1 b (f |⟨rfl,f,y⟩) (v |⟨rfl,v,BO⟩)
  ·exact h.dj _ _ b f v
  ·have:=(h.up _ b f).2;omega
  ·have:=(h.up _ b v).2;omega
  ·rfl
 ·rintro i1 b (f |⟨rfl,f,y⟩)
  ·have:=h.up _ b f;rw[x];omega
  ·rw[x];exact⟨by omega,y⟩
theorem nd.T9 {p:bL}{X:Nat->Np}{an ac:Nat}{no:Oa}{css:List (Lv)}{a:dV}(h:nd w wr W V R p X co cn cc ao an ac no nn nc qo qn qc)(B:css.length=p.procs.length)(C:∀i (h:i<p.procs.length) (h':i<css.length),(iX (aY R) 9 nH) wr (fun b=>X 3 b/\Z b≠(O qo qn qc:aw).ownBlock) p.procs[i] css[i])
 (e:wr.grownBy w1 (Z W)) (hx:(iX (aY R) 9 nH) w1 (fun b=>wr.heap.size<=b) a xs) (d:w1.grownBy w' (O qo qn qc:aw).ownBlock) (G:w'.ownsRow (V+1) 65 9 (O E z F) (p.procs.length+1) (css.flatten++xs)) (K:(Value.slice E z F).ownBlock=(O qo qn qc:aw).ownBlock\/(Value.slice E z F).ownBlock=Z w1.heap.size):
 nd w (w'.setCell (Y V 3 U) (O E z F)) W V R {p with procs:=p.procs++[a]} (fun j b=>X j b\/(j=3/\wr.heap.size<=b/\b<w'.heap.size)) co cn cc ao an ac no nn nc E z F/\Below (V+1) w1 w':=by
 have hz:=e.size;have bA:=d.size;have L:=J h.s;have N:=h.tl;have q:=h.pl;have r:=h.l3.own;have P:∀k,(O qo qn qc:aw).ownBlock=Z k->V<k:=fun k c=>(h.up 3 k (r k c)).1;have l:∀j,¬X j W:=fun j hx=>(by have:=(h.up j W hx).1;omega);have m:∀j,¬X j V:=fun j hx=>(by have:=(h.up j V hx).1;omega);have g:Below (V+1) w1 w':=⟨d.os,d.tape,d.output,d.size,fun k c=>d.block k (by omega) (fun Q=>by have:=P k Q.symm;omega)⟩;have x:(w'.setCell (Y V 3 U) (O E z F)).heap.size=w'.heap.size:=(by simp[bw]);have o:w'.grownBy (w'.setCell (Y V 3 U) (O E z F)) (Z V):=eR (jh _ _) rfl _;have t:Below V w' (w'.setCell (Y V 3 U) (O E z F)):=(aF _ _).setCell (by simp) _;have S:=(g.block _ (by omega)).trans ((e.block _ L (by simp;omega)).trans h.s);have u:∀j,j≠3->∀k,(O qo qn qc:aw).ownBlock=Z k->¬X j k:=fun j T k c hx=>T (h.dj j 3 k hx (r k c));refine⟨⟨?_,?_,?_,((((h.l0.step (dC fe) e fun k c=>by cases c;exact l 0).step (dC fe) d (u 0 (by decide))).step (dC fe) o fun k c=>by cases c;exact m 0).mono (dC fe) fun b hx _=>.inl hx),((((h.l1.step (dC ia) e fun k c=>by cases c;exact l 1).step (dC ia) d (u 1 (by decide))).step (dC ia) o fun k c=>by cases c;exact m 1).mono (dC ia) fun b hx _=>.inl hx),((((h.l2.step (dC gy) e fun k c=>by cases c;exact l 2).step (dC gy) d (u 2 (by decide))).step (dC gy) o fun k c=>by cases c;exact m 2).mono (dC gy) fun b hx _=>.inl hx),(((iV.add (dC gh) r B C (fun b hx=>(h.up 3 b hx).2) (l 3) e hx d G K).mono (dC gh) (X':=fun b=>X 3 b\/(3=3/\wr.heap.size<=b/\b<w'.heap.size)) fun b hx hl=>hx.imp id fun q=>⟨rfl,q,hl⟩).step (dC gh) o fun k c hx=>by cases c;rcases hx with hx |⟨_,hx,_⟩;exact m 3 hx;omega),?_,?_,mh (h.gr.trans e) (((g.mono (by omega)).trans (t.mono (by omega)))),N,q⟩,g⟩
 ·rw[t.block _ (by omega),g.block _ (by omega),e.block _ (by have:=J h.bx;omega) (by simp;omega)];exact h.bx
 ·rw[t.block _ (by omega),g.block _ (by omega),e.block _ (by have:=J h.n;omega) (by simp;omega)];exact h.n
 ·simp[bw,dM,S]
 ·rintro i1 j1 b (f |⟨rfl,f,y⟩) (v |⟨rfl,v,BO⟩)
  ·exact h.dj _ _ b f v
  ·have:=(h.up _ b f).2;omega
  ·have:=(h.up _ b v).2;omega
  ·rfl
 ·rintro i1 b (f |⟨rfl,f,y⟩)
  ·have:=h.up _ b f;rw[x];omega
  ·rw[x];exact⟨by omega,y⟩
theorem Yz {b d:Type}{s:Lu}{P:List Tok->aA b}{acc:List b}{c:List b->List Tok->aA d}(h:aO s (ts.drop k)=true)(i:acc.length<=m):
 (ag.dU e s P (m - acc.length) acc (ts.drop k)).bind c=if acc.length=m then aA.no 2 (bI e (ts.drop k)) else(ag.aR e s (ts.drop k)).bind fun _ f=>(P f).bind fun a g=>(ag.dU e s P (m - (acc++[a]).length) (acc++[a]) g).bind c:=by
 by_cases hf:acc.length=m
 ·rw[if_pos hf,hf,Nat.sub_self,Nt h];rfl
 ·rw[if_neg hf,show m - acc.length=(m - (acc.length+1))+1 by omega,Ns h,Bb h,if_pos rfl,iU];simp only[List.length_append,List.length_cons,List.length_nil];rfl
theorem YA {a c:Type}{s:Lu}{P:List Tok->aA a}{acc:List a}{b:List a->List Tok->aA c}(h:aO s (ts.drop k)=false):(ag.dU e s P m acc (ts.drop k)).bind b=b acc (ts.drop k):=by
 rw[Nu h];rfl
def te (b o:Nat)(w:au):Nat:=lenOf ((w.cell? (Y b o U)).getD undef)
def Px {α:Type}(w2 wc:au)(tb e:Nat)(ts:List Tok)(v:aw)(R:aA α)(X qb:Nat)(oy:Int)(nm:Bt)(N:List cV->List Tok->aA α):Prop:=
 ∃(po:Oa) (pc:Nat) (acc:List cV) (k:Nat) (c p:Int),Dh w2 wc tb e ts v R X qb 65 #[A I oy,H nm,O po acc.length pc,H ⟨#[]⟩,A I 0,O U 0 0,O U 0 0,O U 0 0,O U 0 0] (fun r=>(ag.dU e [44] (ag.gY e) (4 - acc.length) acc r).bind N) k c p/\bO (iX (aY R) 3 fW) wc (qb+1) 60 3 (O po acc.length pc) acc/\acc.length<=5/\(c=0->acc.length<=4)
def Uk {α:Type}(w2 wc:au)(tb e:Nat)(ts:List Tok)(v:aw)(R:aA α)(X qb:Nat)(oy:Int)(nm:Bt)(N:List cV->List Tok->aA α):Prop:=
 ∃(po:Oa) (pn pc:Nat) (acc:List cV) (k:Nat) (c p:Int),Dh w2 wc tb e ts v R X qb 65 #[A I oy,H nm,O po pn pc,H ⟨#[]⟩,A I 0,O U 0 0,O U 0 0,O U 0 0,O U 0 0] (N acc) k c p/\(aY R->bH fW wc (fun b=>qb<b) 3 (O po pn pc) acc)
theorem ahz {R:Prop}(h:bO (iX R 3 fW) w (B+1) 60 3 v acc)(a:R):bH fW w (fun b=>B<b) 3 v acc:=by
 obtain⟨c,d,e,f⟩:=h.ex;have g:bO _ _ _ _ _ _ _:=⟨c,d,e,fun i j k=>(f i j k).2 a⟩;exact g.rows ic
theorem XR {i:Type}{R:aA i}{nm:Bt}{j:List cV->List Tok->aA i}{x:Ending}(u:acc.length<=4)(hf:acc.length=4->∃q,R=.no 2 q)(h:Uj G W e ts v R X L oy nm acc (fun a r=>if acc.length=4 then aA.no 3 0 else(ag.dU e [44] (ag.gY e) (4 - (acc++[a]).length) (acc++[a]) r).bind j) x wc):x=.returned (.tuple #[])/\Px G wc W e ts v R X L oy nm j/\te L 2 wc=acc.length+1:=by
 obtain⟨rfl,y,pn,d,a,k,c,p,b,l⟩:=h;obtain⟨w,z,o⟩:=l.slice;cases o;have s:=b.bE;have m:c=0->acc.length≠4:=fun g n=>by
  obtain⟨q,t⟩:=hf n;rcases b.st.2 with⟨_,f⟩|⟨f,_⟩
  ·rw[t] at f;simp only[if_pos n] at f;cases f
  ·exact f g
 refine⟨rfl,⟨y,d,acc++[a],k,c,p,b.turn ⟨b.st.1,b.st.2.imp (fun h=>⟨h.1,?_⟩) id⟩,l,by simp;omega,fun g=> ?_⟩,?_⟩
 ·rw[h.2];simp only;rw[if_neg (m h.1)]
 ·have:=m g;simp;omega
 ·unfold te;simp[World.cell?,s,lenOf]
def Qf (R:Prop)(w:au)(S:Np)(pv:aw)(acc:List cV)(rl:aw)(tl:List Po)(bv:aw)(bl:List Po):Prop:=R->bH fW w S 3 pv acc/\dw w S rl tl/\dw w S bv bl
theorem Qf.keeps {R:Prop}{a:List Po}(h:Qf R w S pv acc rl a bv bl)(k:aP S w w'):Qf R w' S pv acc rl a bv bl:=fun r=>⟨(h r).1.keeps (fun h=>ic.keeps h k) k,(h r).2.1.keeps k,(h r).2.2.keeps k⟩
theorem Qf.mono {R:Prop}{S':Np}{a:List Po}(h:Qf R w S pv acc rl a bv bl)(k:∀b,S b->b<w.heap.size->S' b):Qf R w S' pv acc rl a bv bl:=fun r=>⟨(h r).1.mono (fun h=>ic.mono h k) k,(h r).2.1.mono k,(h r).2.2.mono k⟩
def I8 {α:Type}(w2 wc:au)(tb e:Nat)(ts:List Tok)(v:aw)(R:aA α)(X qb:Nat)(oy:Int)(nm:Bt)(po:Oa)(pn pc:Nat)(ps:List cV)(rt:Int)(ro:Oa)(rn rc:Nat)(tl:List Po)(bo:Oa)(bn bc:Nat)(bl:List Po)(B:Nat)(N:List Bt->List Tok->aA α):Prop:=
 ∃(fo:Oa) (fc:Nat) (acc:List Bt) (k:Nat) (c p:Int),Dh w2 wc tb e ts v R X qb 65 #[A I oy,H nm,O po pn pc,H ⟨#[]⟩,A I rt,O ro rn rc,O bo bn bc,O fo acc.length fc,O U 0 0] (fun r=>(ag.dU e [44] (ag.bR e) (6 - acc.length) acc r).bind N) k c p/\bO (iX (aY R) 1 jm) wc B 9 1 (O fo acc.length fc) acc/\acc.length<=7/\(c=0->acc.length<=6)/\Qf (aY R) wc (fun b=>qb<b/\b<B) (O po pn pc) ps (O ro rn rc) tl (O bo bn bc) bl/\qb<B/\B<=wc.heap.size
def P5 {α:Type}(w2 wc:au)(tb e:Nat)(ts:List Tok)(v:aw)(R:aA α)(X qb:Nat)(oy:Int)(nm:Bt)(po:Oa)(pn pc:Nat)(ps:List cV)(rt:Int)(ro:Oa)(rn rc:Nat)(tl:List Po)(bo:Oa)(bn bc:Nat)(bl:List Po)(N:List Bt->List Tok->aA α):Prop:=
 ∃(fo:Oa) (fn fc:Nat) (fl:List Bt) (k:Nat) (c p:Int),Dh w2 wc tb e ts v R X qb 65 #[A I oy,H nm,O po pn pc,H ⟨#[]⟩,A I rt,O ro rn rc,O bo bn bc,O fo fn fc,O U 0 0] (N fl) k c p/\Qf (aY R) wc (fun b=>qb<b) (O po pn pc) ps (O ro rn rc) tl (O bo bn bc) bl/\(aY R->kv wc (fun b=>qb<b) (O fo fn fc) fl)
theorem aaY {K:Type}{f l:au}{R:aA K}{nm:Bt}{N:List Po}{P:List Bt->List Tok->aA K}{acc:List Bt}{g:Bt}{css:List (Lv)}{j m:Nat}
 (hl:acc.length<=6) (hf:acc.length=6->∃q,R=.no 2 q) (u:Dh G f W e ts v R X L 65 #[A I oy,H nm,O y pn d,H ⟨#[]⟩,A I rt,O ro rn rc,O bo bn bc,O fo acc.length fc,O U 0 0] (fun r=>if acc.length=6 then aA.no 3 0 else(ag.dU e [44] (ag.bR e) (6 - (acc++[g]).length) (acc++[g]) r).bind P) k c p) (hn:g.size<=maxLen) (hO:f.ownsRow B 9 1 (O fo acc.length fc) acc.length css.flatten) (h2:css.length=acc.length) (h3:∀i (h:i<acc.length) (h':i<css.length),iX (aY R) 1 jm f (SB B (O fo acc.length fc)) acc[i] css[i])
 (hQ:Qf (aY R) f (fun b=>L<b/\b<B) (O y pn d) ps (O ro rn rc) N (O bo bn bc) bl) (x:L<B) (S:B<=f.heap.size) (T:(f.alloc (M #[H g] 9)).grownBy l (Value.slice fo acc.length fc).ownBlock) (bF:l.ownsRow B 9 1 (O (Z (Y j 0 U)) (acc.length+1) m) (acc.length+1) (css.flatten++[H g])) (eQ:(Value.slice fo acc.length fc).ownBlock=Z j\/j=(f.alloc (M #[H g] 9)).heap.size):
 I8 G (l.setCell (Y L 7 U) (O (Z (Y j 0 U)) (acc.length+1) m)) W e ts v R X L oy nm y pn d ps rt ro rn rc N bo bn bc bl B P/\te L 7 (l.setCell (Y L 7 U) (O (Z (Y j 0 U)) (acc.length+1) m))=acc.length+1/\l.heap[L]? =Z (M #[A I oy,H nm,O y pn d,H ⟨#[]⟩,A I rt,O ro rn rc,O bo bn bc,O fo acc.length fc,O U 0 0] 65):=by
 have z:Bl f (f.alloc (M #[H g] 9)):=(aF _ _).alloc (Nat.le_refl _) _;have V:=hO.lt;have n:=(z.mono S).grown T (by have:=z.size;omega) (fun k C=>(V k C).1);have Ak:=(n.block _ x).trans u.bE;have t:=(u.set (n.mono (by omega)) Ak).put 7 (O (Z (Y j 0 U)) (acc.length+1) m);have aK:c=0->acc.length≠6:=fun E h4=>by
  obtain⟨q,hq⟩:=hf h4;rcases u.st.2 with⟨_,o⟩|⟨o,_⟩
  ·rw[hq] at o;simp only[if_pos h4] at o;cases o
  ·exact o E
 have lx:=bO.add (dC (Q:=aY R) fe) (w:=f) (css:=css) (a:=g) (xs:=[H g]) (fun k C=>(V k C).2) h2 (fun i hi cY=>(dC fe).keeps (h3 i hi cY) (aP.bm z)) ⟨⟨rfl,fun ad hu=>by simp only[List.mem_singleton] at hu;subst hu;rfl⟩,fun _=>⟨rfl,hn⟩⟩ S bF T (eQ.imp (fun h=>h.symm) (fun h=>congrArg Z h));have s:(acc++[g]).length=acc.length+1:=(by simp);have C7:aP (fun b=>L<b/\b<B) f (l.setCell (Y L 7 U) (O (Z (Y j 0 U)) (acc.length+1) m)):=⟨by have:=n.size;simpa[bw] using this,fun b F _=>by rw[Below.heap_setCell _ _ _ _ (by show b≠L;omega)];exact n.block b F.2⟩;refine⟨⟨Z (Y j 0 U),m,acc++[g],k,c,p,?_,?_,by rw[s];omega,fun E=> ?_,hQ.keeps C7,x,by have:=n.size;simp[bw];omega⟩,?_,Ak⟩
 ·rw[s];refine t.turn ⟨t.st.1,t.st.2.imp (fun h=>⟨h.1,?_⟩) id⟩;rw[h.2];simp only;rw[if_neg (aK h.1),s]
 ·rw[s];exact lx.grown (dC fe) (rb:=L) (eR (jh _ _) rfl _) x
 ·have:=aK E;rw[s];omega
 ·have F:=t.bE;unfold te;simp[World.cell?,F,lenOf]
theorem amJ {g:Type}{R:aA g}{nm:Bt}{j:List Po}{l:List Bt->List Tok->aA g}{acc:List Bt}(a:aO [44] (ts.drop k)=false)(f:Dh G wc W e ts v R X L 65 #[A I oy,H nm,O y pn d,H ⟨#[]⟩,A I rt,O ro rn rc,O bo bn bc,O fo acc.length fc,O U 0 0] (fun r=>(ag.dU e [44] (ag.bR e) (6 - acc.length) acc r).bind l) k c p)(n:bO (iX (aY R) 1 jm) wc B 9 1 (O fo acc.length fc) acc)(o:Qf (aY R) wc (fun b=>L<b/\b<B) (O y pn d) ps (O ro rn rc) j (O bo bn bc) bl)(C:L<B):P5 G wc W e ts v R X L oy nm y pn d ps rt ro rn rc j bo bn bc bl l:=by
 refine⟨fo,acc.length,fc,acc,k,c,p,f.turn ⟨f.st.1,f.st.2.imp (fun h=>⟨h.1,?_⟩) id⟩,o.mono fun b m _=>m.1,fun q=> ?_⟩
 ·rw[h.2];exact YA a
 ·obtain⟨s,t,u,w⟩:=n.ex;have x:bO _ _ _ _ _ _ _:=⟨s,t,u,fun i a z=>(w i a z).2 q⟩;exact x.strs.mono fun b m _=>by omega
end Go.Proofs.YtoiiahpdbcokaaaGreatDoor
