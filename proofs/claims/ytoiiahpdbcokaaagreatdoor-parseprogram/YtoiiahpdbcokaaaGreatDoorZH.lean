/- The document's own reader: one, where there is no room, and where there is. And more of the same. -/
import Derived.Test.YtoiiahpdbcokaaaGreatDoorZC
import Derived.Maps.Own
import Derived.Maps.OwnOps
import Derived.Maps.OwnSet
import Derived.Maps.Views
import Derived.StringKeys
import Derived.OrdersHeld
import Derived.Deep.RegionLawGrows
import Derived.Test.YtoiiahpdbcokaaaGreatDoorZShelf
namespace Go.Proofs.YtoiiahpdbcokaaaGreatDoor
open Go.IntKind renaming i64 -> I
open Go.Value renaming slice -> O, pointer -> aB
open _root_.Option renaming none -> U, some -> Z
open Go.Addr renaming mk -> Y
open Go.Obj renaming cells -> M
open Go renaming lt_of_block -> J, World -> au, Value -> aw, Calls -> aC
open _root_.Nat renaming le_refl -> aD, le_trans -> fC
open Go.Ending renaming returned -> aE, returned -> jS
open Go.RowKit.Below renaming refl -> aF, heap_setCell -> dL
open _root_.Array renaming getElem?_modify -> dM
open Go.World renaming cell? -> aN, setCell -> bw
open _root_.Bool renaming false -> ak, true -> ap
open Go.Act renaming put -> aU
open _root_.List renaming mem_cons -> fN, not_mem_nil -> kD
open Go.RowKit renaming Hid -> ah
open _root_.Go.Proofs.Tryz
set_option maxRecDepth 100000
set_option maxHeartbeats 8000000
open Go.RowKit
open ag (Tok Tr Po aA nx bI aO gg ba)
variable {B G L N b base K e e' f g F i id j m n p sz X:Nat} {q V ts:List Tok} {lv sv u v y0 y1 y2 y3 y4 y5 y6 z:aw} {bl c k:Int} {W a w w' w1 E wa wc wr:au} {o x y:Tr} {s t:Bt} {P:List Tok->aA Tr} {cx cy xs:Lv} {C:Av} {ok:Prop} {R:aA Tr}
theorem ahQ:zv X e ts v bl ((12:Nat):Int) (ag.wX e 0):=by
 intro w k p h;have y:=h.cells;have G:=h.lt;obtain⟨wa,b⟩:∃wa,wa=(w.alloc (M #[aB (Z (Y X 0 U))] 43)).alloc (M ZE 48):=⟨_,rfl⟩;have i:Bl w wa:=by
  rw[b];have l:=(aF w.heap.size w).alloc (aD _) (M #[aB (Z (Y X 0 U))] 43);exact l.alloc l.size _
 have m:(w.alloc (M #[aB (Z (Y X 0 U))] 43)).heap.size=w.heap.size+1:=Array.size_push _;have n:ah (wa.heap[w.heap.size+1]? =Z (M ZE 48)):=(by show _=_;rw[b,<-m];exact cu _ _ _ rfl);have K:=am (ab b);have o:=wT 2 (h.later i);have c:=am i;have z:=am h;unfold ZE at b;clear h i;go_enter func150,ntmps150;go_wp2_with fail;rw[<-b];clear b;refine o.mono ?_;rintro x w1 ⟨rfl,d⟩;have q:=J n;have f:=(d.1.block _ q (by simp;omega)).trans n;have r:=am (World.grownBy.trans ⟨c.os,c.tape,c.output,c.size,fun j B _=>c.block j B⟩ d.1);have C:=am d.2;unfold ZE at f;have E:=am f;have L:=fa f;clear d o f q m y;go_wp2;obtain⟨s,g⟩:=nm (tI w1 (w.heap.size+1) (.int I 0) (.int I 0) (.int I 0) (.int I 0) (.string ⟨#[]⟩) (O U 0 0) (O U 0 0));have t:=E.out;unfold ZE at t;have a:=Tq (by rw[g];exact Ls t _ _ _ _ _ _ _:s.heap[w.heap.size+1]? =Z (M #[.int I 0,.int I 0,.int I 0,.int I 0,.string ⟨#[]⟩,O U 0 0,O U 0 0] 48));have u:Below (w.heap.size+1) w1 s:=(by rw[g];exact LG (aF _ _) (aD _) _ _ _ _ _ _ _);have F:=mh r (u.mono (by omega));unfold tI at g;rw[<-g];refine bodyPost_ret (v:=Ac) (by simp[results,results150,go_sem,a.1,a.2.1,a.2.2.1,a.2.2.2.1,a.2.2.2.2.1,a.2.2.2.2.2.1,a.2.2.2.2.2.2,Ac]) rfl ⟨F,.inr ⟨2,bI e (ts.drop k),_,rfl,rfl,⟨_,_,_,_,_,_,_,_,_,_,_,rfl⟩,by decide,?_⟩⟩;exact z.past r C (u.mono (by omega))
def II:Prop:=∀(s:Bt) (n:Int) (w:au),s.size<=18->Lib.atoi s.data.toList=Z n->aC prog 194 #[.string s,.int I 10,.int I 64] w fun x w'=>x=aE (.tuple #[.int I n,.nilIface])/\Bl w w'
def Py (ts:List Tok):Prop:=∀t∈ts,t.1=2->t.2.2.length<=18/\Lib.atoi t.2.2=Z (ag.wY t.2.2)
structure Uu (w wa:au)(tb:Nat):Prop where
 gr:w.grownBy wa (Z tb)
 box:wa.heap[w.heap.size]? =Z (M #[aB (Z (Y tb 0 U))] 43)
 res:wa.heap[w.heap.size+1]? =Z (M ZE 48)
 lo:tb<w.heap.size
theorem inA {k:Nat}{p al x:Int}(h:Tx w X e ts v k c p bl al)(d:wa=(((w.setCell (Y X 6 U) (.int I x)).alloc (M #[aB (Z (Y X 0 U))] 43)).alloc (M ZE 48))):Uu w wa X:=by
 have f:=(h.deep x).1;have a:(w.setCell (Y X 6 U) (.int I x)).heap.size=w.heap.size:=(by simp[bw]);have g:((w.setCell (Y X 6 U) (.int I x)).alloc (M #[aB (Z (Y X 0 U))] 43)).heap.size=w.heap.size+1:=(by rw[<-a];exact Array.size_push _);have b:=(aF _ (w.setCell (Y X 6 U) (.int I x))).alloc (aD _) (M #[aB (Z (Y X 0 U))] 43);have i:=b.alloc b.size (M ZE 48);rw[d];refine⟨mH f i,?_,?_,h.lt⟩
 ·refine cR ?_;rw[<-a];exact cu _ _ _ rfl
 ·rw[<-g];exact cu _ _ _ rfl
theorem inD {b:au}{t:Tok}(h:Uu w wa X)(a:Bl wa w1)(c:b=w1.alloc (M #[.int I t.1,.int I (t.2.1:Int),.string (ba t.2.2)] 81)):lF w b X w1.heap.size t:=by
 have e:=J h.res;have f:=a.size;have d:=(aF _ w1).alloc (aD _) (M #[.int I t.1,.int I (t.2.1:Int),.string (ba t.2.2)] 81);rw[c];exact⟨mH (mH h.gr a) d,cR ((a.block _ (by omega)).trans h.box),cR ((a.block _ (by omega)).trans h.res),cu _ _ _ rfl,h.lo,by omega⟩
theorem ahL {d:Nat}(hd:d<12)(gM:ag.Good ts)(gK:qx ts)(sT:Py ts)(Br:II){ad:List Tok->aA Tr}(hE:zO X e ts v bl ((d+1:Nat):Int) ad)(hP:zv X e ts v bl ((d+1:Nat):Int) P):zv X e ts v bl d (ag.oJ e ad P):=by
 intro w k p h;obtain⟨q0,q1,q2,q3,q4,q5,q6⟩:=h.cells;have G:=h.free 6;have aK:=h.lt;have a3:decide ((12:Int)<=(d:Int))=ak:=(by simp;omega);have lO:∀(fn:Fn) (first K:Av) (w:au),(Instr.makeFunc fn first K).run prog w=.ok (.func fn first K) w:=fun _ _ _ _=>rfl;obtain⟨wa,jc⟩:∃wa,wa=(((w.setCell (Y X 6 U) (.int I ((d:Int)+1))).alloc (M #[aB (Z (Y X 0 U))] 43)).alloc (M ZE 48)):=⟨_,rfl⟩;have vI:Tx (w.setCell (Y X 6 U) (.int I ((d:Int)+1))) X e ts v k 0 p bl ((d+1:Nat):Int):=(by have:=(h.deep ((d:Int)+1)).2;simpa using this);have aT:=(h.deep ((d:Int)+1)).1;have AQ:ah (Uu w wa X):=inA h (by rw[jc]);have uL:ah (Tx wa X e ts v k 0 p bl ((d+1:Nat):Int)):=by
  show Tx _ _ _ _ _ _ _ _ _ _;refine vI.later ?_;rw[jc];have h1:=(aF _ (w.setCell (Y X 6 U) (.int I ((d:Int)+1)))).alloc (aD _) (M #[aB (Z (Y X 0 U))] 43);exact h1.alloc h1.size _
 have HH:ah (Tx w X e ts v k 0 p bl d):=h;have dK:ah (ag.Good ts):=gM;have jH:ah (qx ts):=gK;have uQ:ah (Py ts):=sT;have U9:ah II:=Br;have HE:ah (zO X e ts v bl ((d+1:Nat):Int) ad):=hE;have HP:ah (zv X e ts v bl ((d+1:Nat):Int) P):=hP;obtain⟨R,q⟩:∃R,R=ag.oJ e ad P (ts.drop k):=⟨_,rfl⟩;rw[<-q];unfold ag.oJ at q;obtain⟨t,ht⟩:∃t,t=nx (ts.drop k):=⟨_,rfl⟩;rw[<-ht] at q;rw[drop_tail] at q;have n:ah (R=_):=q;have sg:ah (t=nx (ts.drop k)):=ht;have sW:d<=12:=(by omega);have mU:k<=100000:=fC h.le h.jZ;unfold ZE at jc;clear h vI aT q ht gM gK sT Br hE hP
 go_enter_defers func150,ntmps150
 go_wp2_with fail;rw[<-jc];clear jc q0 q1 q2 q3 q4 q5 q6 G;refine(peekD uL).mono ?_;rintro x w1 ⟨rfl,aJ⟩;unfold AY;rw[<-sg.out];obtain⟨wt,nu⟩:∃wt,wt=w1.alloc (M #[.int I t.1,.int I (t.2.1:Int),.string (ba t.2.2)] 81):=⟨_,rfl⟩;have HI:ah (lF w wt X w1.heap.size t):=inD AQ aJ nu;have HT:ah (Tx wt X e ts v k 0 p bl ((d+1:Nat):Int)):=by
  show Tx _ _ _ _ _ _ _ _ _ _;refine(uL.later aJ).later ?_;rw[nu];exact(aF _ _).alloc (aD _) _
 have hK:=HI.hK;obtain⟨u,y,f,g,i,j⟩:=HI.cells;clear aJ;go_upto_region 9 with fail
 rw[<-nu];clear nu;by_cases c2:t.1=2
 ·have b2:(t.1==2)=ap:=(by simp[c2]);have dc:k<ts.length:=(by apply Classical.byContradiction;intro bh;have h9:=sg.out;rw[A9 (by omega)] at h9;rw[h9] at c2;cases c2);have Fs:=uQ.out t (by rw[sg.out,G4 dc];exact List.getElem_mem dc) c2;have L:ah (R=.ok (.mk 1 t.2.1 (ag.wY t.2.2) 1 (ba []) [] []) (ts.drop (k+1))):=(by show _=_;rw[n.out,if_pos c2]);obtain⟨pF,mz⟩:=HT.next dc;obtain⟨q0,q1,q2,q3,q4,q5,q6⟩:=HT.cells;have N:=HT.free 1;obtain⟨wn,cJ⟩:∃wn,wn=wt.setCell (Y X 1 U) (.int I ((k:Int)+1)):=⟨_,rfl⟩;rw[<-cJ] at pF mz;have aW:ah (lF w wn X w1.heap.size t):=HI.later pF;have UK:ah (Tx wn X e ts v (k+1) 0 p bl ((d+1:Nat):Int)):=mz;have HC:=U9.out (ba t.2.2) (ag.wY t.2.2) wn (by rw[vR];exact Fs.1) (by rw[TX];exact Fs.2);have a4:=HT.lt;clear pF mz Fs c2;go_wp2_with fail;rw[<-cJ];clear cJ q0 q1 q2 q3 q4 q5 q6 N f g i j;refine HC.mono ?_;rintro x wA ⟨rfl,z⟩;have AQ:ah (lF w wA X w1.heap.size t):=aW.below z;have uL:ah (Tx wA X e ts v (k+1) 0 p bl ((d+1:Nat):Int)):=UK.later z;obtain⟨l3,l4,f,g,i,j⟩:=AQ.cells;have m:=AQ.res;unfold ZE at m;obtain⟨⟨q0,q1,q2,q3,q4,q5,q6⟩,p0,p1,p2,p3,p4,p5,p6⟩:=fa m;clear m z HC;go_wp2;exact It sW HH AQ ⟨uL.out,.inl ⟨rfl,_,L.out,CM 1 _ _ 1 (by rw[vR];simp[maxLen])⟩⟩ rfl
 ·have b2:(t.1==2)=ak:=(by simp[c2]);have q:=n.out;rw[if_neg c2] at q;clear n c2;have n:ah (R=_):=q;clear q;have C:=vl ag.Cu HT;go_wp2_with fail;refine C.mono ?_;rintro x wA ⟨rfl,c⟩;have AQ:ah (lF w wA X w1.heap.size t):=HI.later c.1;clear C u y f g i j;obtain⟨u,y,f,g,i,j⟩:=AQ.cells;by_cases cA:gg ag.Cu (ts.drop k)=ap
  ·rw[cA] at c⊢;have uL:ah (Tx wA X e ts v (k+1) 0 p bl ((d+1:Nat):Int)):=c.2.2;clear c;have L:ah (R=.ok (.mk 1 t.2.1 1 2 (ba []) [] []) (ts.drop (k+1))):=(by show _=_;rw[n.out,if_pos cA]);have m:=AQ.res;unfold ZE at m;obtain⟨⟨q0,q1,q2,q3,q4,q5,q6⟩,p0,p1,p2,p3,p4,p5,p6⟩:=fa m;clear m;clear cA n;go_wp2;exact It sW HH AQ ⟨uL.out,.inl ⟨rfl,_,L.out,CM 1 _ 1 2 (by rw[vR];simp[maxLen])⟩⟩ rfl
  ·have Pk:gg ag.Cu (ts.drop k)=ak:=(by simpa using cA);rw[Pk] at c⊢;have uL:ah (Tx wA X e ts v k 0 p bl ((d+1:Nat):Int)):=c.2.2;clear c;have q:=n.out;rw[if_neg cA] at q;clear n cA Pk;have n:ah (R=_):=q;clear q;have C:=vl ag.Cw uL;go_wp2_with fail;refine C.mono ?_;rintro x wB ⟨rfl,c⟩;have PY:ah (lF w wB X w1.heap.size t):=AQ.later c.1;clear C u y f g i j;obtain⟨u,y,f,g,i,j⟩:=PY.cells;by_cases cB:gg ag.Cw (ts.drop k)=ap
   ·rw[cB] at c⊢;have F6:ah (Tx wB X e ts v (k+1) 0 p bl ((d+1:Nat):Int)):=c.2.2;clear c;have L:ah (R=.ok (.mk 1 t.2.1 0 2 (ba []) [] []) (ts.drop (k+1))):=(by show _=_;rw[n.out,if_pos cB]);have m:=PY.res;unfold ZE at m;obtain⟨⟨q0,q1,q2,q3,q4,q5,q6⟩,p0,p1,p2,p3,p4,p5,p6⟩:=fa m;clear m;clear cB n;go_wp2;exact It sW HH PY ⟨F6.out,.inl ⟨rfl,_,L.out,CM 1 _ 0 2 (by rw[vR];simp[maxLen])⟩⟩ rfl
   ·have ae:gg ag.Cw (ts.drop k)=ak:=(by simpa using cB);rw[ae] at c⊢;have F6:ah (Tx wB X e ts v k 0 p bl ((d+1:Nat):Int)):=c.2.2;clear c;have q:=n.out;rw[if_neg cB] at q;clear n cB ae;have n:ah (R=_):=q;clear q;have C:=vl [45] F6;go_wp2_with fail;refine C.mono ?_;rintro x wC ⟨rfl,c⟩;have VK:ah (lF w wC X w1.heap.size t):=PY.later c.1;clear C u y f g i j;obtain⟨u,y,f,g,i,j⟩:=VK.cells;by_cases cC:gg [45] (ts.drop k)=ap
    ·rw[cC] at c⊢;have LY:ah (Tx wC X e ts v (k+1) 0 p bl ((d+1:Nat):Int)):=c.2.2;clear c;have L:ah (R=(P (ts.drop (k+1))).bind fun x r=>.ok (ag.eK t [x]) r):=(by show _=_;rw[n.out,if_pos (.inl cC)]);clear n;have zy:ah ((ba t.2.2).size<=maxLen):=(by show _<=_;rw[sg.out];exact jH.nx k);have Vf:ah (∀w',Bl wC w'->aC prog 150 #[aB (Z (Y X 0 U))] w' (Ul wC X e ts v bl ((d+1:Nat):Int) R (fun a r=>.ok (ag.eK t [a]) r) (w.heap.size+1+1))):=by
      intro w' z;have B:St w' X e ts v bl ((d+1:Nat):Int) R (fun r=>(P r).bind fun x r=>.ok (ag.eK t [x]) r) (k+1) 0 p:=⟨LY.later z,.inl ⟨rfl,L.out⟩⟩;refine(XZ HP B).mono ?_;exact fun x ek h=>XW (by omega) z h
     go_upto_region 19 with fail
     refine Code.wp_mono Ro ?_
     go_region_law (go_simp
                    go_at_call 150
                    refine(Vf.out _ (by first | exact aF _ _ | exact FT _ | exact zn _ _)).mono ?_;rintro x wP ⟨y0,y1,y2,y3,y4,y5,n5,f5,y6,n6,f6,rfl,C9,a,kP,cP,pP,B,S⟩;have T:ah (lF w wP X w1.heap.size t):=VK.later C9;have UX:ah (St wP X e ts v bl ((d+1:Nat):Int) R (fun r=>.ok (ag.eK t [a]) r) kP cP pP):=B;have UL:ah (aY R->aS wP (fun b=>w.heap.size+1+1<=b) a [.int I y0,.int I y1,.int I y2,.int I y3,.string y4,O y5 n5 f5,O y6 n6 f6]):=S;obtain⟨i1,i2,i3,j0,j1,j2⟩:=T.cells;have m:=T.res;unfold ZE at m;obtain⟨⟨r0,r1,E,r3,r4,r5,r6⟩,s0,s1,s2,s3,s4,s5,s6⟩:=fa m;clear m C9 B S
                    dsimp only)
     all_goals refine Rp ?_
     all_goals clear r0 r1 E r3 r4 r5 r6 s0 s1 s2 s3 s4 s5 s6 i3 j0 j1 j2 f g i j
     all_goals go_wp2
     all_goals exact Tz sW HH T UX zy (fun _=>kE _ _) UL rfl
    ·have af:gg [45] (ts.drop k)=ak:=(by simpa using cC);rw[af] at c⊢;have LY:ah (Tx wC X e ts v k 0 p bl ((d+1:Nat):Int)):=c.2.2;clear c;have C:=vl [33] LY;go_wp2_with fail;refine C.mono ?_;rintro x wD ⟨rfl,c⟩;have VJ:ah (lF w wD X w1.heap.size t):=VK.later c.1;clear C u y f g i j;obtain⟨u,y,f,g,i,j⟩:=VJ.cells;by_cases cD:gg [33] (ts.drop k)=ap
     ·rw[cD] at c⊢;have UN:ah (Tx wD X e ts v (k+1) 0 p bl ((d+1:Nat):Int)):=c.2.2;clear c;have L:ah (R=(P (ts.drop (k+1))).bind fun x r=>.ok (ag.eK t [x]) r):=(by show _=_;rw[n.out,if_pos (.inr cD)]);clear n;have zy:ah ((ba t.2.2).size<=maxLen):=(by show _<=_;rw[sg.out];exact jH.nx k);have Vf:ah (∀w',Bl wD w'->aC prog 150 #[aB (Z (Y X 0 U))] w' (Ul wD X e ts v bl ((d+1:Nat):Int) R (fun a r=>.ok (ag.eK t [a]) r) (w.heap.size+1+1))):=by
       intro w' z;have B:St w' X e ts v bl ((d+1:Nat):Int) R (fun r=>(P r).bind fun x r=>.ok (ag.eK t [x]) r) (k+1) 0 p:=⟨UN.later z,.inl ⟨rfl,L.out⟩⟩;refine(XZ HP B).mono ?_;exact fun x ek h=>XW (by omega) z h
      go_upto_region 19 with fail
      refine Code.wp_mono Ro ?_
      go_region_law (go_simp
                     go_at_call 150
                     refine(Vf.out _ (by first | exact aF _ _ | exact FT _ | exact zn _ _)).mono ?_;rintro x wP ⟨y0,y1,y2,y3,y4,y5,n5,f5,y6,n6,f6,rfl,C9,a,kP,cP,pP,B,S⟩;have T:ah (lF w wP X w1.heap.size t):=VJ.later C9;have UX:ah (St wP X e ts v bl ((d+1:Nat):Int) R (fun r=>.ok (ag.eK t [a]) r) kP cP pP):=B;have UL:ah (aY R->aS wP (fun b=>w.heap.size+1+1<=b) a [.int I y0,.int I y1,.int I y2,.int I y3,.string y4,O y5 n5 f5,O y6 n6 f6]):=S;obtain⟨i1,i2,i3,j0,j1,j2⟩:=T.cells;have m:=T.res;unfold ZE at m;obtain⟨⟨r0,r1,E,r3,r4,r5,r6⟩,s0,s1,s2,s3,s4,s5,s6⟩:=fa m;clear m C9 B S
                     dsimp only)
      all_goals refine Rp ?_
      all_goals clear r0 r1 E r3 r4 r5 r6 s0 s1 s2 s3 s4 s5 s6 i3 j0 j1 j2 f g i j
      all_goals go_wp2
      all_goals exact Tz sW HH T UX zy (fun _=>kE _ _) UL rfl
     ·have ai:gg [33] (ts.drop k)=ak:=(by simpa using cD);rw[ai] at c⊢;have UN:ah (Tx wD X e ts v k 0 p bl ((d+1:Nat):Int)):=c.2.2;clear c;have q:=n.out;rw[if_neg (by rintro(h | h);exact cC h;exact cD h)] at q;clear n cC af cD ai;have n:ah (R=_):=q;clear q;have C:=vl [40] UN;go_wp2_with fail;refine C.mono ?_;rintro x wF ⟨rfl,c⟩;have VI:ah (lF w wF X w1.heap.size t):=VJ.later c.1;clear C u y f g i j;obtain⟨u,y,f,g,i,j⟩:=VI.cells;by_cases cF:gg [40] (ts.drop k)=ap
      ·rw[cF] at c⊢;have UM:ah (Tx wF X e ts v (k+1) 0 p bl ((d+1:Nat):Int)):=c.2.2;clear c;have L:ah (R=(ad (ts.drop (k+1))).bind fun x r=>(ag.aR e [41] r).bind fun _ E=>.ok x E):=(by show _=_;rw[n.out,if_pos cF]);clear n cF;have B:St wF X e ts v bl ((d+1:Nat):Int) R (fun r=>(ad r).bind fun x r=>(ag.aR e [41] r).bind fun _ E=>.ok x E) (k+1) 0 p:=⟨UM.out,.inl ⟨rfl,L.out⟩⟩;have hx:=BS HE B;go_wp2_with fail;refine hx.mono ?_;rintro x F ⟨V,N,W,z3,z4,z5,m5,d5,G,m6,d6,rfl,hg,a,kx,cx,px,Ai,S⟩;obtain⟨Q,fZ⟩:∃Q,Q=F.alloc (M #[.int I V,.int I N,.int I W,.int I z3,.string z4,O z5 m5 d5,O G m6 d6] 48):=⟨_,rfl⟩;have ib:Bl F Q:=(by rw[fZ];exact(aF _ _).alloc (aD _) _);have Gg:=VI.later hg;have Vy:ah (lF w Q X w1.heap.size t):=Gg.below ib;have zw:ah (Q.heap[F.heap.size]? =Z (M #[.int I V,.int I N,.int I W,.int I z3,.string z4,O z5 m5 d5,O G m6 d6] 48)):=(by show _=_;rw[fZ];exact cu _ _ _ rfl);have RS:=hg.size;have UJ:ah (aY R->aS Q (fun b=>w.heap.size+1+1<=b) a [.int I V,.int I N,.int I W,.int I z3,.string z4,O z5 m5 d5,O G m6 d6]):=fun h=>((S h).keeps (aP.bm ib)).mono fun b z _=>(by omega);have hn:=oK dK (s:=[41]) (ji (by decide)) (by decide) (Ai.later ib);clear u y f g i j;obtain⟨u,y,f,g,i,j⟩:=Gg.cells;have l0:w.heap.size<F.heap.size:=(by omega);clear hg Ai S ib Gg hx;go_wp2_with fail;rw[<-fZ];clear fZ;refine hn.mono ?_;rintro x wz ⟨rfl,mV,k3,c3,p3,Hp⟩;have IZ:ah (lF w wz X w1.heap.size t):=Vy.later mV;have IR:ah (St wz X e ts v bl ((d+1:Nat):Int) R _ k3 c3 p3):=Hp;have yl:=J zw;have yz:=(mV.block F.heap.size yl (by simp;omega)).trans zw;have UE:ah (aY R->aS wz (fun b=>w.heap.size+1+1<=b) a [.int I V,.int I N,.int I W,.int I z3,.string z4,O z5 m5 d5,O G m6 d6]):=fun h=>(UJ.out h).keeps (aP.bP mV fun b z=>by simp;omega);have Af:=mV.size;clear u y f g i j;obtain⟨u,y,f,g,i,j⟩:=IZ.cells
       obtain⟨⟨o0,o1,o2,o3,o4,o5,o6⟩,_⟩:=fa yz;have m:=IZ.res;unfold ZE at m;obtain⟨⟨q0,q1,q2,q3,q4,q5,q6⟩,p0,p1,p2,p3,p4,p5,p6⟩:=fa m;clear m;clear B hn mV Hp yz;go_wp2;exact It sW HH IZ (ahK IR UE) rfl
      ·have ao:gg [40] (ts.drop k)=ak:=(by simpa using cF);rw[ao] at c⊢;have UM:ah (Tx wF X e ts v k 0 p bl ((d+1:Nat):Int)):=c.2.2;clear c;have q:=n.out;rw[if_neg cF] at q;clear n cF ao;have n:ah (R=_):=q;clear q;have C:=vl ag.Cv UM;go_wp2_with fail;refine C.mono ?_;rintro x wG ⟨rfl,c⟩;have VH:ah (lF w wG X w1.heap.size t):=VI.later c.1;clear C u y f g i j;obtain⟨u,y,f,g,i,j⟩:=VH.cells;by_cases cG:gg ag.Cv (ts.drop k)=ap
       ·rw[cG] at c⊢;have LX:ah (Tx wG X e ts v (k+1) 0 p bl ((d+1:Nat):Int)):=c.2.2;clear c;have L:ah (R=ag.qd e ad (ts.drop k)):=(by show _=_;rw[n.out,if_pos cG]);clear n cG;have B:St wG X e ts v bl ((d+1:Nat):Int) R (fun r=>(ag.aR e [40] r).bind fun _ r1=>(ad r1).bind fun x E=>(ag.aR e [116,111] E).bind fun _ r3=>(ag.fX e r3).bind fun l r4=>(ag.aR e [41] r4).bind fun _ r5=>.ok (.mk 5 t.2.1 0 0 (ba []) l [x]) r5) (k+1) 0 p:=⟨LX.out,.inl ⟨rfl,by rw[L.out];unfold ag.qd;rw[drop_tail,<-sg.out]⟩⟩;have fj:=oK dK (s:=[40]) (ji (by decide)) (by decide) B;go_wp2_with fail;refine fj.mono ?_;rintro x wH ⟨rfl,ar,kH,cH,pH,ZU⟩;have av:ah (lF w wH X w1.heap.size t):=VH.later ar;clear u y f g i j;obtain⟨u,y,f,g,i,j⟩:=av.cells;clear fj ar B;have hx:=BS HE ZU;go_wp2_with fail;refine hx.mono ?_;rintro x F ⟨V,N,W,z3,z4,z5,m5,d5,G,m6,d6,rfl,hg,a,kx,cx,px,Ai,S⟩;obtain⟨Q,fZ⟩:∃Q,Q=F.alloc (M #[.int I V,.int I N,.int I W,.int I z3,.string z4,O z5 m5 d5,O G m6 d6] 48):=⟨_,rfl⟩;have ib:Bl F Q:=(by rw[fZ];exact(aF _ _).alloc (aD _) _);have Gg:=av.later hg;have Vy:ah (lF w Q X w1.heap.size t):=Gg.below ib;have zw:ah (Q.heap[F.heap.size]? =Z (M #[.int I V,.int I N,.int I W,.int I z3,.string z4,O z5 m5 d5,O G m6 d6] 48)):=(by show _=_;rw[fZ];exact cu _ _ _ rfl);have RS:=hg.size;have UJ:ah (aY R->aS Q (fun b=>w.heap.size+1+1<=b) a [.int I V,.int I N,.int I W,.int I z3,.string z4,O z5 m5 d5,O G m6 d6]):=fun h=>((S h).keeps (aP.bm ib)).mono fun b z _=>(by omega);have hn:=oK dK (s:=[116,111]) (.inl (by decide)) (by decide) (Ai.later ib);clear u y f g i j;obtain⟨u,y,f,g,i,j⟩:=Gg.cells;have l0:w.heap.size<F.heap.size:=(by omega);clear hg Ai S ib Gg hx;go_wp2_with fail;rw[<-fZ];clear fZ;refine hn.mono ?_;rintro x wz ⟨rfl,mV,k3,c3,p3,Hp⟩;have IZ:ah (lF w wz X w1.heap.size t):=Vy.later mV
        have IR:ah (St wz X e ts v bl ((d+1:Nat):Int) R _ k3 c3 p3):=Hp;have yl:=J zw;have yz:=(mV.block F.heap.size yl (by simp;omega)).trans zw;have UE:ah (aY R->aS wz (fun b=>w.heap.size+1+1<=b) a [.int I V,.int I N,.int I W,.int I z3,.string z4,O z5 m5 d5,O G m6 d6]):=fun h=>(UJ.out h).keeps (aP.bP mV fun b z=>by simp;omega);have Af:=mV.size;clear u y f g i j;obtain⟨u,y,f,g,i,j⟩:=IZ.cells;have aX:ah (wz.heap[F.heap.size]? =_):=yz;have ef:=ES dK jH Hp;clear ZU hn mV Hp yz;go_wp2_with fail;refine ef.mono ?_;rintro x wL ⟨lo,ln,lc,rfl,KA,l,k4,c4,p4,ZW,er⟩;have ax:ah (lF w wL X w1.heap.size t):=IZ.later KA;have aZ:ah (wL.heap[F.heap.size]? =_):=(KA.block F.heap.size (by omega) (by simp;omega)).trans aX;have B1:ah (aY R->aS wL (fun b=>w.heap.size+1+1<=b) a [.int I V,.int I N,.int I W,.int I z3,.string z4,O z5 m5 d5,O G m6 d6]):=fun h=>(UE.out h).keeps (aP.bP KA fun b z=>by simp;omega);have AO:ah (aY R->dw wL (fun b=>w.heap.size+1+1<=b) (O lo ln lc) l):=fun h=>(er h).mono fun b z _=>(by omega);have a5:=KA.size;have oq:=oK dK (s:=[41]) (ji (by decide)) (by decide) ZW;clear u y f g i j;obtain⟨u,y,f,g,i,j⟩:=ax.cells;clear ef KA ZW er;go_wp2_with fail;refine oq.mono ?_;rintro x wM ⟨rfl,Hz,k5,c5,p5,ZV⟩;have VF:ah (lF w wM X w1.heap.size t):=ax.later Hz;have yM:=(Hz.block F.heap.size (by omega) (by simp;omega)).trans aZ;have a0:ah (aY R->aS wM (fun b=>w.heap.size+1+1<=b) a [.int I V,.int I N,.int I W,.int I z3,.string z4,O z5 m5 d5,O G m6 d6]):=fun h=>(B1.out h).keeps (aP.bP Hz fun b z=>by simp;omega);have Gd:ah (aY R->dw wM (fun b=>w.heap.size+1+1<=b) (O lo ln lc) l):=fun h=>(AO.out h).keeps (aP.bP Hz fun b z=>by simp;omega);have a1:ah (St wM X e ts v bl ((d+1:Nat):Int) R _ k5 c5 p5):=ZV;have a6:=Hz.size;clear u y f g i j;obtain⟨u,y,f,g,i,j⟩:=VF.cells;obtain⟨⟨o0,o1,o2,o3,o4,o5,o6⟩,_⟩:=fa yM
        have m:=VF.res;unfold ZE at m;obtain⟨⟨q0,q1,q2,q3,q4,q5,q6⟩,p0,p1,p2,p3,p4,p5,p6⟩:=fa m;clear m;clear oq Hz ZV yM;go_wp2;exact Tz sW HH VF a1 (by show(ba []).size<=maxLen;rw[vR];simp[maxLen]) Gd a0 rfl
       ·have ay:gg ag.Cv (ts.drop k)=ak:=(by simpa using cG);rw[ay] at c⊢;have LX:=am c.2.2;clear c;have q:=n.out;rw[if_neg cG] at q;clear n cG ay;have n:=am q;clear q;have B:St wG X e ts v bl ((d+1:Nat):Int) R (fun r=>(ag.bR e r).bind fun s r=>if aO [40] r=ap then(ag.ei e [40] [44] [41] 4 ad r).bind fun a E=>.ok (.mk 4 t.2.1 0 0 s [] a) E else .ok (.mk 2 t.2.1 0 0 s [] []) r) k 0 p:=⟨LX.out,.inl ⟨rfl,n.out⟩⟩;have ew:=qT jH B;go_wp2_with fail;refine ew.mono ?_;rintro x wN ⟨o,rfl,ho,aG,kN,cN,pN,R8⟩;have I1:=am (VH.later aG);clear u y f g i j;obtain⟨u,y,f,g,i,j⟩:=I1.cells;have ee:=rC [40] R8.1;have UY:=am R8;have HO:=am ho;clear B ew aG R8 ho n;go_wp2_with fail;refine ee.mono ?_;rintro x wO ⟨rfl,SM⟩;have PX:=am (I1.below SM);have aH:=am (UY.1.later SM);clear u y f g i j;obtain⟨u,y,f,g,i,j⟩:=PX.cells;clear ee SM;by_cases cO:gg [40] (ts.drop kN)=ap
        ·have vD:cN=0/\R=(ag.ei e [40] [44] [41] 4 ad (ts.drop kN)).bind fun a E=>.ok (.mk 4 t.2.1 0 0 o [] a) E:=by
          rcases UY.2 with⟨h1,h2⟩|⟨_,h2,_⟩
          ·refine⟨h1,?_⟩;rw[h2];show(if aO [40] (ts.drop kN)=ap then _ else _)=_;rw[if_pos (by rw[<-np dK.out (ji (by decide)) (by decide)];exact cO)]
          ·rw[h2,zZ] at cO;cases cO
         obtain⟨rfl,uB⟩:=vD;have jk:=am uB;rw[cO];clear cO uB;have a2:ah (∀w',Bl wO w'->aC prog 106 #[aB (Z (Y X 0 U))] w' (ArS wO X e ts v bl ((d+1:Nat):Int) R t.2.1 o (w.heap.size+1+1))):=(by intro w' z;refine(acm dK HE (aH.later z)).mono ?_;intro x ek hp;exact aqa jk HO (by omega) z hp);go_upto_region 33 with fail
         refine Code.wp_mono Ro ?_
         go_region_law (go_simp
                        go_at_call 106
                        refine(a2.out _ (by first | exact aF _ _ | exact FT _ | exact zn _ _)).mono ?_;rintro x wP ⟨lo,ln,lc,rfl,C9,kP,cP,pP,aI⟩;have T:=am (PX.later C9);have Vg:=am aI;obtain⟨i1,i2,y0,j0,j1,j2⟩:=T.cells;have m:=T.res;unfold ZE at m;obtain⟨⟨r0,r1,E,r3,r4,r5,r6⟩,s0,s1,s2,s3,s4,s5,s6⟩:=fa m;clear m C9 aI
                        dsimp only)
         all_goals refine Rp ?_
         all_goals clear r0 r1 E r3 r4 r5 r6 s0 s1 s2 s3 s4 s5 s6 y0 j0 j1 j2 f g i j
         all_goals go_wp2
         all_goals exact It sW HH T Vg rfl
        ·have aM:gg [40] (ts.drop kN)=ak:=(by simpa using cO);rw[aM];have Vg:ah (LO wO (w.heap.size+1+1) X e ts v kN cN pN bl ((d+1:Nat):Int) R [.int I 2,.int I (t.2.1:Int),.int I 0,.int I 0,.string o,O U 0 0,O U 0 0]):=by
          refine⟨aH.out,?_⟩;rcases UY.2 with⟨h1,h2⟩| h
          ·refine .inl ⟨h1,.mk 2 t.2.1 0 0 o [] [],?_,CM 2 _ 0 0 HO⟩;rw[h2];show(if aO [40] (ts.drop kN)=ap then _ else _)=_;rw[if_neg (by rw[<-np dK.out (ji (by decide)) (by decide)];exact cO)]
          ·exact .inr h
         have m:=PX.res;unfold ZE at m;obtain⟨⟨q0,q1,q2,q3,q4,q5,q6⟩,p0,p1,p2,p3,p4,p5,p6⟩:=fa m;clear m;clear cO aM;go_wp2;exact It sW HH PX Vg rfl
section
open Go.RowKit Go.Maps
def MR (v:aw):Option (DataW aw×List MemPlace):=Z (.held v,[])
theorem Nw:Keyed prog 9:=string_keyed underlying9
theorem Gw {ps:List MemPlace}(h:MR u=Z (.held v,ps)):u=v:=by
 simp only[MR,Option.some.injEq,Prod.mk.injEq,DataW.held.injEq] at h;exact h.1
def He (s:Bt):Lit:=.string s.data.toList
theorem NA (h:s.size<=maxLen):keyOf prog 9 (.string s)=Z (He s):=Go.WideMaps.keyOf_string_mk underlying9 h
theorem Y7 (s:Bt):WideAt.IsKeyLit (He s):=trivial
theorem aks (h:s≠t):He s≠He t:=by
 intro e;injection e with e
 exact h (ByteArray.ext (Array.ext' e))
def sf (w:au)(B N:Nat)(f:Bt->Option aw):Prop:=∃D:DataW aw,w.ownsMap prog 9 MR B N D/\∀s:Bt,s.size<=maxLen->has D (He s)=(f s).isSome/\∀v,f s=Z v->∀z,D.atKey (He s) z=.held v
theorem sf.made (w:au):sf (w.alloc (.map #[] 0)) w.heap.size 0 (fun _=>U):=
 ⟨_,World.ownsMap_made w _ _ _,fun s _=>⟨rfl,fun v h=>by cases h⟩⟩
theorem sf.kept {f:Bt->Option aw}{row:Option Nat}(h:sf w B N f)(a:w.grownBy w' row)(b:Z B≠row):sf w' B N f:=by
 obtain⟨D,c,d⟩:=h;exact⟨D,c.kept a b,d⟩
theorem sf.lt {f:Bt->Option aw}(h:sf w B N f):B<w.heap.size:=by
 obtain⟨D,a,_⟩:=h;exact a.lt
theorem sf.hit {f:Bt->Option aw}(h:sf w B N f){t e:TypeId}(c:prog.underlying t=Z (.map 9 e))(d:(zeroValue e).run prog w=.ok z w)(a:s.size<=maxLen)(g:f s=Z v):(Instr.lookup t (.map (Z B)) (.string s) ak).run prog w=.ok v w:=by
 obtain⟨D,i,j⟩:=h;obtain⟨u,ps,k,b⟩:=i.lookup Nw c d (zd:=.held z) (zp:=[]) rfl (NA a);rw[(j s a).2 v g] at b;have e:u=v:=Gw b;rw[<-e];exact k
theorem sf.aiM {f:Bt->Option aw}(h:sf w B N f){t e:TypeId}(d:prog.underlying t=Z (.map 9 e))(g:(zeroValue e).run prog w=.ok z w)(a:s.size<=maxLen)(i:f s=U):(Instr.lookup t (.map (Z B)) (.string s) ak).run prog w=.ok z w:=by
 obtain⟨D,j,k⟩:=h;obtain⟨u,ps,l,b⟩:=j.lookup Nw d g (zd:=.held z) (zp:=[]) rfl (NA a);have c:=(k s a).1;rw[i] at c;rw[atKey_of_not_has c] at b;have e:u=z:=Gw b;rw[<-e];exact l
theorem sf.asks {f:Bt->Option aw}(h:sf w B N f){t e:TypeId}(g:prog.underlying t=Z (.map 9 e))(i:(zeroValue e).run prog w=.ok z w)(b:s.size<=maxLen):(Instr.lookup t (.map (Z B)) (.string s) ap).run prog w=.ok (.tuple #[(f s).getD z,.bool (f s).isSome]) w:=by
 obtain⟨D,j,d⟩:=h;obtain⟨u,ps,k,a⟩:=j.look_ok Nw g i (zd:=.held z) (zp:=[]) rfl (NA b);have c:=(d s b).1;rw[k,c];have e:u=(f s).getD z:=by
  cases hv:f s with
  | none=>
   rw[hv] at c;rw[atKey_of_not_has c] at a;exact Gw a
  | some v=>
   rw[(d s b).2 v hv] at a;exact Gw a
 rw[e]
def qO (f:Bt->Option aw)(s:Bt)(v:aw):Bt->Option aw:=fun t=>if t=s then Z v else f t
theorem Xq (f:Bt->Option aw)(s:Bt)(v:aw):qO f s v s=Z v:=by simp[qO]
theorem tK {f:Bt->Option aw}(h:t≠s):qO f s v t=f t:=by simp[qO,h]
theorem sf.put {f:Bt->Option aw}(h:sf w B N f){t e:TypeId}(b:prog.underlying t=Z (.map 9 e))(j:s.size<=maxLen)(k:N<maxLen)(v:aw):∃w',(Instr.mapUpdate t (.map (Z B)) (.string s) v).run prog w=.ok () w'/\sf w' B (N+1) (qO f s v)/\w.grownBy w' (Z B):=by
 obtain⟨D,c,g⟩:=h;have hm:=c.isMap;obtain⟨w',l,m,n⟩:=c.update Nw b k (NA j) (d:=.held v) (ps:=[]) rfl;refine⟨w',l,⟨_,m,fun t b=> ?_⟩,n⟩;by_cases e:t=s
 ·subst e;refine⟨by rw[has_put_same hm (Y7 _),Xq];rfl,fun u a z=> ?_⟩;rw[Xq] at a;rw[atKey_put_same hm (Y7 _),Option.some.inj a]
 ·have i:=aks e;refine⟨by rw[has_put_other i,tK e];exact(g t b).1,fun u a z=> ?_⟩;rw[tK e] at a;rw[atKey_put_other i];exact(g t b).2 u a z
end
section
open Go.RowKit Go.Maps
open ag (ba)
def JQ:Bt->Option aw:=(qO (qO (qO (qO (qO (qO (qO (qO (qO (qO (qO (qO (qO (fun _=>U) ⟨#[124,124]⟩ (.int I 1)) ⟨#[38,38]⟩ (.int I 2)) ⟨#[61,61]⟩ (.int I 3)) ⟨#[33,61]⟩ (.int I 3)) ⟨#[60]⟩ (.int I 3)) ⟨#[60,61]⟩ (.int I 3)) ⟨#[62]⟩ (.int I 3)) ⟨#[62,61]⟩ (.int I 3)) ⟨#[43]⟩ (.int I 4)) ⟨#[45]⟩ (.int I 4)) ⟨#[42]⟩ (.int I 5)) ⟨#[47]⟩ (.int I 5)) ⟨#[37]⟩ (.int I 5))
theorem ajy (s:Bt):(JQ s).getD (.int I 0)=.int I (ag.dW s.toList:Int):=by
 have t:∀l:Lu,(JQ ⟨⟨l⟩⟩).getD (.int I 0)=.int I (ag.dW l:Int):=by
  intro l;have a:∀{k:Lu},¬l=k->¬(⟨⟨l⟩⟩:Bt)=⟨⟨k⟩⟩:=fun h e=>h (by injection e with e;injection e);by_cases b:l=[124,124]
  ·subst b;rfl
  by_cases c:l=[38,38]
  ·subst c;rfl
  by_cases d:l=[61,61]
  ·subst d;rfl
  by_cases f:l=[33,61]
  ·subst f;rfl
  by_cases g:l=[60]
  ·subst g;rfl
  by_cases i:l=[60,61]
  ·subst i;rfl
  by_cases j:l=[62]
  ·subst j;rfl
  by_cases m:l=[62,61]
  ·subst m;rfl
  by_cases n:l=[43]
  ·subst n;rfl
  by_cases o:l=[45]
  ·subst o;rfl
  by_cases p:l=[42]
  ·subst p;rfl
  by_cases q:l=[47]
  ·subst q;rfl
  by_cases r:l=[37]
  ·subst r;rfl
  have u:JQ ⟨⟨l⟩⟩=U:=(by unfold JQ;rw[tK (a r)];rw[tK (a q)];rw[tK (a p)];rw[tK (a o)];rw[tK (a n)];rw[tK (a m)];rw[tK (a j)];rw[tK (a i)];rw[tK (a g)];rw[tK (a f)];rw[tK (a d)];rw[tK (a c)];rw[tK (a b)]);rw[u];unfold ag.dW;simp[b,c,d,f,g,i,j,m,n,o,p,q,r]
 have h:=t s.data.toList;rw[show(⟨⟨s.data.toList⟩⟩:Bt)=s from rfl] at h;rw[h,ByteArray.toList_eq]
theorem RI (s:Bt)(e:s.size<=maxLen)(w:au):
 aC prog 152 #[.string s] w fun x w'=>x=aE (.int I (ag.dW s.toList:Int))/\Bl w w':=by
 have X:=@run_makeMap prog;have a:=underlying226;have g:=sf.made w;obtain⟨w1,r1,h,i⟩:=g.put a (s:=⟨#[124,124]⟩) (by decide) (by simp[maxLen]) (.int I 1);obtain⟨w2,r2,k,l⟩:=h.put a (s:=⟨#[38,38]⟩) (by decide) (by simp[maxLen]) (.int I 2);obtain⟨w3,r3,m,n⟩:=k.put a (s:=⟨#[61,61]⟩) (by decide) (by simp[maxLen]) (.int I 3);obtain⟨w4,r4,o,p⟩:=m.put a (s:=⟨#[33,61]⟩) (by decide) (by simp[maxLen]) (.int I 3);obtain⟨w5,r5,q,r⟩:=o.put a (s:=⟨#[60]⟩) (by decide) (by simp[maxLen]) (.int I 3);obtain⟨w6,r6,t,u⟩:=q.put a (s:=⟨#[60,61]⟩) (by decide) (by simp[maxLen]) (.int I 3);obtain⟨w7,r7,y,z⟩:=t.put a (s:=⟨#[62]⟩) (by decide) (by simp[maxLen]) (.int I 3);obtain⟨E,r8,B,F⟩:=y.put a (s:=⟨#[62,61]⟩) (by decide) (by simp[maxLen]) (.int I 3);obtain⟨w9,r9,C,G⟩:=B.put a (s:=⟨#[43]⟩) (by decide) (by simp[maxLen]) (.int I 4);obtain⟨mt,ad,K,L⟩:=C.put a (s:=⟨#[45]⟩) (by decide) (by simp[maxLen]) (.int I 4);obtain⟨sB,ae,N,P⟩:=K.put a (s:=⟨#[42]⟩) (by decide) (by simp[maxLen]) (.int I 5);obtain⟨af,ai,Q,R⟩:=N.put a (s:=⟨#[47]⟩) (by decide) (by simp[maxLen]) (.int I 5);obtain⟨c,ao,f,S⟩:=Q.put a (s:=⟨#[37]⟩) (by decide) (by simp[maxLen]) (.int I 5);have hl:(Instr.lookup 226 (.map (Z w.heap.size)) (.string s) ak).run prog c=.ok (.int I (ag.dW s.toList:Int)) c:=by
  have T:(zeroValue 3).run prog c=.ok (.int I 0) c:=(by simp[go_sem]);rw[<-ajy s];cases hv:JQ s with
  | none=>exact f.aiM a T e hv
  | some v=>exact f.hit a T e hv
 have W:ah (Bl w c):=(by have b:Bl w (w.alloc (.map #[] 0)):=(aF _ _).alloc (aD _) _;have d:=cU (cU (cU (cU (cU (cU (cU (cU (cU (cU (cU (cU (i) l) n) p) r) u) z) F) G) L) P) R) S;exact⟨d.os.trans b.os,d.tape.trans b.tape,d.output.trans b.output,fC b.size d.size,fun j V=>(d.block j (Nat.lt_of_lt_of_le V b.size) (by simp;omega)).trans (b.block j V)⟩);clear h i k l m n o p q r t u y z B F C G K L N P Q R f S g a e;go_enter func152,ntmps152;go_wp2;go_ret;exact⟨rfl,W.out⟩
end
section
variable {P:Program} {ops:Array Oper} {Q:Exit->Act->au->Prop} {md:Region.Mode} {S:Nat->au->Prop}
def n8 (P:Program)(md:Region.Mode)(ops:Array Oper)(Q:Exit->Act->au->Prop)(S:Nat->au->Prop):Nat->Array Bool->Act->au->Prop
 | 0,ls,a,w=>Region.ready md ops ls=[]/\Q .normal a w
 | n+1,ls,a,w=>(Region.ready md ops ls=[]->Q .normal a w)/\∀j∈Region.ready md ops ls,wpOp P ops Q j (fun a' w'=>S j w'/\n8 P md ops Q S n (ls.setIfInBounds j ap) a' w') a w
theorem aqe:∀(n:Nat) (ls:Array Bool) (a:Act) (w:au),n8 P md ops Q S n ls a w->wpAny P md ops Q n ls a w:=by
 intro n;induction n with
 | zero=>exact fun _ _ _ h=>h
 | succ n b=>exact fun ls a w h=>⟨h.1,fun j c=>wpOp_mono (fun d w' e=>b _ d w' e.2) (h.2 j c)⟩
theorem Xi {a:Act}(hm:P.follows .mixedOrders=ap)(h:n8 P .any ops Q S ops.size (Array.replicate ops.size ak) a {w with drawn:=w.drawn+1}):(Code.region id ops ap).wp P Q a w:=
 wp_region_any hm (aqe _ _ _ _ h)
def Wc (md:Region.Mode)(i:Nat)(o:Oper):Prop:=∀e∈o.after,Region.binds md e=ap->e.on≠i
theorem T4 {T:au->Prop}{m:Oper}(y:ops[i]? =Z m)(z:∀(j:Nat) (o:Oper) p b,ops[j]? =Z o->o.op≠ .select p b)
 (V:∀c a w,Q (.panic c) (a.put m.dst v) w->Q (.panic c) a w) (W:∀j d,ops[j]? =Z d->j≠i->Wc md i d->∀w,S j w->T w) (B:∀w,T w->S i w):
 ∀(n:Nat) (ls:Array Bool) (a:Act) (w:au),(∀j d,ops[j]? =Z d->j≠i->ls.getD j ap=ak->Wc md i d->m.apart ops d=ap)->
  i∈Region.ready md ops ls->YieldsIf P ops T m v a->T w->n8 P md ops Q S n (ls.setIfInBounds i ap) (a.put m.dst v) w->n8 P md ops Q S (n+1) ls a w:=by
 intro n;induction n with
 | zero=>
  intro ls a w _ l t q r;refine⟨fun h=> ?_,fun j u=> ?_⟩
  ·rw[h] at l;cases l
  ·by_cases f:j=i
   ·rw[f];exact t.wpOp y q ⟨B w q,r⟩
   ·have C:=ready_mono u f;rw[r.1] at C;cases C
 | succ n X=>
  intro ls a w E l t q r;refine⟨fun h=> ?_,fun j u=> ?_⟩
  ·rw[h] at l;cases l
  ·by_cases f:j=i
   ·rw[f];exact t.wpOp y q ⟨B w q,r⟩
   ·obtain⟨F,d,x,qt⟩:=mem_ready.1 u;have G:Wc md i d:=by
     intro e he hb hq;have s:=qt e he hb;have K:=(mem_ready.1 l).1;rw[hq] at s;by_cases L:i<ls.size
     ·simp[L] at K s;rw[K] at s;cases s
     ·simp[Array.getElem?_eq_none (Nat.le_of_not_lt L)] at s
    have step:=wpOp_putIf x (E j d x f F G) (fun p b=>z i m p b y) (fun p b=>z j d p b x) V t (r.2 j (ready_mono u f));refine wpOp_mono (fun a' w' g=>⟨g.2.1,X (ls.setIfInBounds j ap) a' w' (fun k ok hk ad N KF=> ?_) (ready_mono l (Ne.symm f)) g.1 (W j d x f G w' g.2.1) ?_⟩) step
    ·refine E k ok hk ad ?_ KF;by_cases R:j=k
     ·rw[<-R];exact F
     ·rw[getD_set_ne ap R] at N;exact N
    ·rw[Array.setIfInBounds_comm _ _ f];exact g.2.2
theorem T5 {rs:List Nat}{ls:Array Bool}{a:Act}(b:Region.ready md ops ls=rs)(c:rs≠[])(h:∀j∈rs,wpOp P ops Q j (fun d w'=>S j w'/\n8 P md ops Q S n (ls.setIfInBounds j ap) d w') a w):n8 P md ops Q S (n+1) ls a w:=
 ⟨fun e=>absurd (b▸e) c,b▸h⟩
theorem LK {ls:Array Bool}{a:Act}{w:au}(b:Region.ready md ops ls=[])(h:Q .normal a w):∀n,n8 P md ops Q S n ls a w
 | 0=>⟨b,h⟩
 | _+1=>⟨fun _=>h,by rw[b];intro j c;cases c⟩
def SZ (z:Nat)(T:au->Prop):Nat->au->Prop:=fun j w=>j≠z->T w
def Jk (md:Region.Mode)(ops:Array Oper)(z i:Nat):Bool:=match ops[z]? with
 | some o=>o.after.any fun e=>Region.binds md e && e.on==i
 | none=>ak
theorem oY {T:au->Prop}{z:Nat}{b:Oper}{ls:Array Bool}{a:Act}(f:ops[i]? =Z b)(g:Region.noSelect ops=ap)(hf:Region.free md ops ls i=ap)(l:(Region.ready md ops ls).contains i=ap)(d:Jk md ops z i=ap)
 (m:∀c a w,Q (.panic c) (a.put b.dst v) w->Q (.panic c) a w) (o:YieldsIf P ops T b v a) (p:T w) (h:n8 P md ops Q (SZ z T) n (ls.setIfInBounds i ap) (a.put b.dst v) w):n8 P md ops Q (SZ z T) (n+1) ls a w:=by
 refine T4 f (Region.noSelect_spec g) m (fun j x q _ r w e=>e ?_) (fun w e _=>e) n ls a w (Region.free_spec f hf) (by simpa using l) o p h;rintro rfl;unfold Jk at d;rw[q] at d;simp only[Array.any_eq_true,Bool.and_eq_true,beq_iff_eq] at d;obtain⟨k,s,t,u⟩:=d;exact r _ (Array.getElem_mem s) t u
theorem Pq {T:au->Prop}{z:Nat}{o:Oper}{ls:Array Bool}{a:Act}(c:Region.ready md ops ls=[i])(d:ops[i]? =Z o)(h:∀b:Act->au->Prop,Shut (∀a w,(i≠z->T w)->n8 P md ops Q (SZ z T) n (ls.setIfInBounds i ap) a w->b a w)->if Region.wanted o (yielded ops a.tmps)=ap then Oper.wp P o a w b Q else b (a.put o.dst undef) w):n8 P md ops Q (SZ z T) (n+1) ls a w:=by
 refine T5 c (by simp) (fun j e=> ?_);cases List.mem_singleton.1 e;exact wpOp_step d (fun b f=>h b (fun a w hS g=>f a w ⟨hS,g⟩))
theorem afH {T:au->Prop}(z:Nat){a:Act}(hm:P.follows .mixedOrders=ap)(h:n8 P .any ops Q (SZ z T) ops.size (Array.replicate ops.size ak) a w.drew):(Code.region id ops ap).wp P Q a w:=Xi hm h
theorem cK {T:au->Prop}(d:Tmp){b:Oper}{ls:Array Bool}{a:Act}(e:ops[i]? =Z b)(f:b.dst=Z d)(g:Region.noSelect ops=ap)(hf:Region.free md ops ls i=ap)(j:(Region.ready md ops ls).contains i=ap)(k:∀c a w,Q (.panic c) (a.put b.dst v) w->Q (.panic c) a w)(l:YieldsIf P ops T b v a)(m:T w)
 (h:wpAnyH P md ops Q T n (ls.setIfInBounds i ap) (a.put (Z d) v) w):wpAnyH P md ops Q T (n+1) ls a w:=wpAnyH_take e g hf j k l m (by rw[f];exact h)
end
def Sh7 (cs:Lv):Prop:=∃(z0 z1 z2 z3:Int) (z4:Bt) (z5:Oa) (m5 d5:Nat) (z6:Oa) (m6 d6:Nat),cs=[.int I z0,.int I z1,.int I z2,.int I z3,.string z4,O z5 m5 d5,O z6 m6 d6]
def uX (ok:Prop)(L G:Nat)(sv:aw)(w:au)(S:Np)(a:Tr)(cs:Lv):Prop:=Sh7 cs/\(ok->aS w (fun b=>S b/\b≠L/\b≠G/\Z b≠sv.ownBlock) a cs)
theorem CO (ok:Prop)(L G:Nat)(sv:aw):ng (uX ok L G sv) 7:=
 ⟨fun h k=>⟨h.1,fun o=>(h.2 o).keeps ⟨k.size,fun b a c=>k.block b a.1 c⟩⟩,fun h k=>⟨h.1,fun o=>(h.2 o).mono fun b a c=>⟨k b a.1 c,a.2⟩⟩,
   fun h=>by obtain⟨⟨e,f,g,i,j,l,m,d5,n,p,d6,rfl⟩,_⟩:=h;rfl,
   fun h u d=>by
    obtain⟨⟨e,f,g,i,j,l,m,d5,n,p,d6,rfl⟩,_⟩:=h;simp only[fN,kD,or_false] at d
    rcases d with rfl | rfl | rfl | rfl | rfl | rfl | rfl<;>rfl⟩
def P6 (_:au)(_:Np)(t:Tok)(cs:Lv):Prop:=cs=[.int I t.1,.int I (t.2.1:Int),.string (ba t.2.2)]/\(ba t.2.2).size<=maxLen
theorem J3:ng P6 3:=⟨fun h _=>h,fun h _=>h,fun h=>by rw[h.1];rfl,fun h u a=>by
 rw[h.1] at a;simp only[fN,kD,or_false] at a
 rcases a with rfl | rfl | rfl<;>rfl⟩
structure lE (ok:Prop)(w:au)(B L G:Nat)(lv sv:aw)(xs:List Tr)(ss:List Tok):Prop where
 lb:w.heap[L]? =Z (M #[lv] 46)
 gb:w.heap[G]? =Z (M #[sv] 72)
 lo:bO (uX ok L G sv) w B 48 7 lv xs
 go:bO P6 w B 81 3 sv ss
theorem FU (h:Below B a w)(o:Obj)(b:B<=w.heap.size):Below B a (w.alloc o):=h.alloc b o
theorem Dt (h:Below B a w):Below B a w.drew:=⟨h.os,h.tape,h.output,h.size,h.block⟩
structure IJ (L G:Nat)(w w':au):Prop where
 os:w'.os=w.os
 tape:w'.tape=w.tape
 output:w'.output=w.output
 size:w.heap.size<=w'.heap.size
 block:∀j,j<w.heap.size->j≠L->j≠G->w'.heap[j]? =w.heap[j]?
theorem EG (h:w.ownsRow B e sz v n xs)(hn:0<n):∃g K C,v=O (Z (Y g 0 U)) n K/\B<=g/\w.heap[g]? =Z (M C e)/\n<=K/\K<=maxLen/\C.size=K*sz/\C.toList.take (n*sz)=xs:=by
 rcases h.2 with⟨_,a⟩| h
 ·omega
 ·exact h
theorem EH {css:List (Lv)}(f:w.heap[g]? =Z (M C e))(k:C.toList.take (n*sz)=css.flatten)(o:css.length=n)(a:∀i (h:i<css.length),css[i].length=sz)(b:i<css.length)(c:css[i][j]? =Z u):w.cell? (Y g (i*sz+j) U)=Z u:=by
 have l:j<sz:=(by have:=(List.getElem?_eq_some_iff.1 c).1;rwa [a i b] at this);have d:=(Tm a i b j l).trans c;have m:i*sz+j<n*sz:=(by have:(i+1)*sz<=n*sz:=Nat.mul_le_mul_right _ (by omega);rw[Nat.succ_mul] at this;omega);rw[<-k,List.getElem?_take,if_pos m] at d;simp[aN,f];simpa using d
theorem ahB {css:List (Lv)}(d:w.heap[g]? =Z (M C e))(f:C.toList.take (n*sz)=css.flatten):∀b,Z ((Y g 0 U):Addr)=Z b->∀j u,(css.take m).flatten[j]? =Z u->w.cell? (b.add j)=Z u:=by
 intro b i j u c;cases i;have k:((Y g 0 U):Addr).add j=(Y g j U):=(by simp[Addr.add];intro h;exact h.symm);rw[k];have l:=(List.getElem?_eq_some_iff.1 c).1;have a:css.flatten[j]? =Z u:=by
  rw[<-List.take_append_drop m css,List.flatten_append,List.getElem?_append_left l];exact c
 rw[<-f] at a;have o:=(List.getElem?_eq_some_iff.1 a).1;have p:j<n*sz:=by
  rw[List.length_take] at o;omega
 rw[List.getElem?_take,if_pos p] at a;simp[aN,d];simpa using a
theorem ahF {S:Np}{t:Tok}(c:(ba t.2.2).size<=maxLen)(hx:aS w S x cx)(a:aS w S y cy)(hS:S w.heap.size)(e:TypeId):
 aS (w.alloc (M (cx++cy).toArray e)) S (ag.eK t [x,y]) [.int I 3,.int I (t.2.1:Int),.int I 0,.int I 0,.string (ba t.2.2),O U 0 0,O (Z (Y w.heap.size 0 U)) 2 2]:=by
 have b:aP S w (w.alloc (M (cx++cy).toArray e)):=aP.bm ((aF _ _).alloc (aD _) _);refine .mk c (kE _ _) (Xg hx a hS e) rfl (fun i d f=> ?_)
 match i,d with
 | 0,_=>exact hx.keeps b
 | 1,_=>exact a.keeps b
theorem afY {m n:au}{gk d e:Nat}{xs:List Tr}{s:Tok}{css:List (Lv)}{new:Lv}(hB:B<=w.heap.size)
 (l:lE ok w B L G (O (Z (Y g 0 U)) (xs.length+2) K) (O (Z (Y gk 0 U)) (V.length+1) d) (xs++[x,y]) (V++[s])) (Ba:L≠G) (Rq:gk≠L) (Rr:gk≠G)
 (o2:css.length=xs.length+2) (N:∀i (h:i<(xs++[x,y]).length) (h':i<css.length),uX ok L G (O (Z (Y gk 0 U)) (V.length+1) d) w (SB B (O (Z (Y g 0 U)) (xs++[x,y]).length K)) (xs++[x,y])[i] css[i]) (KM:css[xs.length]'(by omega)=cx) (KL:css[xs.length+1]'(by omega)=cy)
 (hW:W=((w.setCell (Y G 0 U) (O (Z (Y gk 0 U)) V.length d)).alloc (M #[.int I s.1,.int I (s.2.1:Int),.string (ba s.2.2)] 81)))
 (Fj:new=[.int I 3,.int I (s.2.1:Int),.int I 0,.int I 0,.string (ba s.2.2),O U 0 0,O (Z (Y (w.heap.size+1) 0 U)) 2 2])
 (X:m=(W.alloc (M (cx++cy).toArray 48)).drew) (eM:n=m.alloc (M new.toArray 48)) (t:n.grownBy E U) (Ld:n.heap.size<=F)
 (h8:E.ownsRow n.heap.size 48 7 (O (Z (Y F 0 U)) (xs.length+1) e) (xs.length+1) ((css.take xs.length).flatten++new)):
 IJ L G w (E.setCell (Y L 0 U) (O (Z (Y F 0 U)) (xs.length+1) e))/\∃rH sE,lE ok (E.setCell (Y L 0 U) (O (Z (Y F 0 U)) (xs.length+1) e)) B L G rH sE (xs++[ag.eK s [x,y]]) V:=by
 have lL:=J l.lb;have lG:=J l.gb;have eW:(w.setCell (Y G 0 U) (O (Z (Y gk 0 U)) V.length d)).heap.size=w.heap.size:=(by simp[bw]);have zW:W.heap.size=w.heap.size+1:=(by rw[hW,<-eW];exact Array.size_push _);have af:m.heap.size=w.heap.size+2:=(by rw[X];show(W.heap.push _).size=_;rw[Array.size_push,zW]);have aG:n.heap.size=w.heap.size+3:=(by rw[eM];show(m.heap.push _).size=_;rw[Array.size_push,af]);have p:Below w.heap.size (w.setCell (Y G 0 U) (O (Z (Y gk 0 U)) V.length d)) W:=(by rw[hW,<-eW];exact(aF _ _).alloc (aD _) _);have b1:Bl W m:=(by rw[X];exact Dt (FU (aF _ _) _ (aD _)));have b2:Bl m n:=(by rw[eM];exact FU (aF _ _) _ (aD _));have b8:Below _ _ _:=⟨t.os,t.tape,t.output,t.size,fun j u=>t.block j u (by simp)⟩;have v:=(b1.trans (b2.mono (by omega))).trans (b8.mono (by omega));have ad:∀j,j<w.heap.size->j≠G->E.heap[j]? =w.heap[j]? :=fun j u hG=>by
  rw[v.block j (by omega),p.block j u,dL _ _ _ _ hG]
 have fr:∀j,j<w.heap.size->j≠L->j≠G->(E.setCell (Y L 0 U) (O (Z (Y F 0 U)) (xs.length+1) e)).heap[j]? =w.heap[j]? :=fun j u hL hG=>by
  rw[dL _ _ _ _ hL];exact ad j u hG
 have QB:(E.setCell (Y L 0 U) (O (Z (Y F 0 U)) (xs.length+1) e)).heap.size=E.heap.size:=(by simp[bw]);have aI:w.heap.size+3<=E.heap.size:=(by have:=b8.size;omega);obtain⟨_,_,ai,R0,_,ao,Hu,Sg,sR,R4⟩:=EG h8 (by omega);cases R0;have ar:F≠L:=(by omega);have aK:gk<w.heap.size:=(by obtain⟨f,P,Q,z⟩:=l.go.ex;exact(P.lt gk rfl).2);have qh:(ba s.2.2).size<=maxLen:=(by obtain⟨f,P,Q,z⟩:=l.go.ex;have q:=(z V.length (by simp) (by rw[Q];simp)).2;simpa using q);refine⟨⟨?_,?_,?_,?_,fr⟩,O (Z (Y F 0 U)) (xs.length+1) e,O (Z (Y gk 0 U)) V.length d,?_,?_,?_,?_⟩
 ·show E.os=_;rw[v.os,p.os];rfl
 ·show E.tape=_;rw[v.tape,p.tape];rfl
 ·show E.output=_;rw[v.output,p.output];rfl
 ·rw[QB];omega
 ·have q:=(ad L lL Ba).trans l.lb;simp[bw,dM,q]
 ·rw[dL _ _ _ _ (Ne.symm Ba),v.block G (by omega),p.block G lG];simp[bw,dM,l.gb]
 ·have r:(css.take xs.length).length=xs.length:=(by rw[List.length_take,o2];omega);have kp:aP (fun b=>(B<=b/\b≠L/\b≠G/\Z b≠Z gk)/\b<w.heap.size) _ _:=⟨by rw[QB];omega,fun b c _=>fr b c.2 c.1.2.1 c.1.2.2.1⟩;have A8:∀{a:Tr} {R:Lv},uX ok L G (O (Z (Y gk 0 U)) (V.length+1) d) w (SB B (O (Z (Y g 0 U)) (xs++[x,y]).length K)) a R->Sh7 R/\(ok->aS (E.setCell (Y L 0 U) (O (Z (Y F 0 U)) (xs.length+1) e)) (fun b=>(B<=b/\b≠L/\b≠G/\Z b≠Z gk)/\b<w.heap.size) a R):=fun{a R} h=>⟨h.1,fun o=>(aS.mono (S':=fun b=>(B<=b/\b≠L/\b≠G/\Z b≠Z gk)/\b<w.heap.size) (h.2 o) fun b c C=>⟨⟨c.1.1,c.2⟩,C⟩).keeps kp⟩;have up:∀b,(B<=b/\b≠L/\b≠G/\Z b≠Z gk)/\b<w.heap.size->SB B (O (Z (Y F 0 U)) (xs.length+1) e) b/\b≠L/\b≠G/\Z b≠Z gk:=fun b c=>⟨⟨c.1.1,by show Z b≠Z F;simp;omega⟩,c.1.2⟩;have aM:∀i (h:i<css.length),css[i].length=7:=fun i k=>(CO ok L G _).len (N i (by simp;omega) k);refine⟨css.take xs.length++[new],⟨?_,.inr ⟨F,e,ai,by simp,by omega,?_,by simpa using Hu,Sg,sR,by simpa using R4⟩⟩,by simp[r],fun i k cY=> ?_⟩
  ·have:=h8.1;simpa using this
  ·rw[dL _ _ _ _ ar];exact ao
  ·by_cases ae:i<xs.length
   ·obtain⟨e1,e2⟩:=A8 (N i (by simp;omega) (by omega));have q1:(css.take xs.length++[new])[i]=css[i]'(by omega):=(by rw[List.getElem_append_left (by omega),List.getElem_take]);have q2:(xs++[ag.eK s [x,y]])[i]=(xs++[x,y])[i]'(by simp;omega):=(by rw[List.getElem_append_left ae,List.getElem_append_left ae]);rw[q1,q2];exact⟨e1,fun o=>(e2 o).mono fun b c _=>up b c⟩
   ·have av:i=xs.length:=(by simp at k;omega);subst av;have q1:(css.take xs.length++[new])[xs.length]=new:=(by rw[List.getElem_append_right (by omega)];simp[r]);have q2:(xs++[ag.eK s [x,y]])[xs.length]=ag.eK s [x,y]:=(by simp);rw[q1,q2,Fj];refine⟨⟨_,_,_,_,_,_,_,_,_,_,_,rfl⟩,fun o=> ?_⟩;obtain⟨_,S⟩:=N xs.length (by simp) (by omega);obtain⟨_,T⟩:=N (xs.length+1) (by simp) (by omega);have S:=S o;have T:=T o;rw[KM,show(xs++[x,y])[xs.length]'(by simp)=x by simp] at S;rw[KL,show(xs++[x,y])[xs.length+1]'(by simp)=y by simp] at T;have kW:aP (fun b=>(B<=b/\b≠L/\b≠G/\Z b≠Z gk)/\b<w.heap.size) w W:=⟨by omega,fun b c _=>by rw[p.block b c.2,dL _ _ _ _ c.1.2.2.1]⟩;have wx:aS _ (fun b=>(B<=b/\b≠L/\b≠G/\Z b≠Z gk)/\b<w.heap.size+2) _ _:=((aS.mono (S':=fun b=>(B<=b/\b≠L/\b≠G/\Z b≠Z gk)/\b<w.heap.size) S fun b c C=>⟨⟨c.1.1,c.2⟩,C⟩).keeps kW).mono fun b c _=>⟨c.1,by omega⟩;have wy:aS _ (fun b=>(B<=b/\b≠L/\b≠G/\Z b≠Z gk)/\b<w.heap.size+2) _ _:=((aS.mono (S':=fun b=>(B<=b/\b≠L/\b≠G/\Z b≠Z gk)/\b<w.heap.size) T fun b c C=>⟨⟨c.1.1,c.2⟩,C⟩).keeps kW).mono fun b c _=>⟨c.1,by omega⟩;have t2:=ahF qh wx wy ⟨⟨by omega,by omega,by omega,by simp;omega⟩,by omega⟩ 48;rw[zW] at t2;refine(t2.keeps ⟨?_,fun b c _=> ?_⟩).mono fun b c _=>⟨⟨c.1.1,by show Z b≠Z F;simp;omega⟩,c.1.2⟩
    ·rw[QB];show(W.heap.push _).size<=_;rw[Array.size_push,zW];omega
    ·have aJ:=c.1.2.1;have aH:=c.2;rw[dL _ _ _ _ aJ,b8.block b (by omega),b2.block b (by omega),X];rfl
 ·obtain⟨f,P,Q,z⟩:=l.go.ex;obtain⟨gq,LE,Pf,Kd,ax,Ap,ay,SA,Sy,Hm⟩:=EG P (by simp);have hq:gk=gq/\d=LE:=(by simp only[Value.slice.injEq,Option.some.injEq,Addr.mk.injEq] at Kd;exact⟨Kd.1.1,Kd.2.2⟩);obtain⟨rfl,rfl⟩:=hq;have qZ:∀i (h:i<f.length),f[i].length=3:=fun i k=>J3.len (z i (by omega) k);have ND:f.length=V.length+1:=(by rw[Q];simp);have r:(f.take V.length).length=V.length:=(by rw[List.length_take,ND];omega);have f9:(f.take V.length).flatten.length=V.length*3:=(by rw[abb (sz:=3) (fun i k=>by rw[List.getElem_take];exact qZ i (by rw[r] at k;omega)),r]);refine⟨f.take V.length,⟨f9,.inr ⟨gk,d,Pf,rfl,ax,(fr gk (J Ap) Rq Rr).trans Ap,by simp at ay;omega,SA,Sy,?_⟩⟩,r,fun i k cY=> ?_⟩
  ·have e1:Pf.toList.take (V.length*3)=(Pf.toList.take ((V++[s]).length*3)).take (V.length*3):=(by rw[List.take_take,Nat.min_eq_left (by simp;omega)]);rw[e1,Hm]
   conv=>lhs;rw[<-List.take_append_drop V.length f,List.flatten_append]
   exact List.take_left' f9
  ·have q:=z i (by simp;omega) (by omega);rw[List.getElem_append_left k] at q;rw[List.getElem_take];exact q
theorem abu {r:Operand->aw}{o:Oper}{x:Operand}{off:Nat}{a b c d e f h:aw}(i:o.op=Op.load 48 x)(hx:r x=aB (Z (Y g off U)))(j:W.cell? (Y g off U)=Z a)(k:W.cell? (Y g (off+1) U)=Z b)(l:W.cell? (Y g (off+2) U)=Z c)(m:W.cell? (Y g (off+3) U)=Z d)(n:W.cell? (Y g (off+4) U)=Z e)(p:W.cell? (Y g (off+5) U)=Z f)(q:W.cell? (Y g (off+6) U)=Z h):
 (execOp r o).run prog W=.ok (.value (.agg #[a,b,c,d,e,f,h])) W:=by
 unfold execOp;rw[i];simp only[hx];simp[Instr.loadAt,go_sem,j,k,l,m,n,p,q]
theorem Xr {xs:List Tr}{s:Tok}(hB:B<=w.heap.size)(h:lE ok w B L G lv sv (xs++[x,y]) (V++[s]))(hx:xs.length<=100000)(aK:V.length<=100000):
 aC prog 151 #[aB (Z (Y L 0 U)),aB (Z (Y G 0 U))] w fun r w'=>r=aE (.tuple #[])/\IJ L G w w'/\∃rH sE,lE ok w' B L G rH sE (xs++[ag.eK s [x,y]]) V:=by
 obtain⟨f,o1,o2,R⟩:=h.lo.ex;obtain⟨g,K,C,hv,aM,S,An,KN,gH,xq⟩:=EG o1 (by simp);obtain⟨rX,k1,k2,k3⟩:=h.go.ex;obtain⟨gk,X,Pf,Kd,aT,p,aW,SA,Sy,Hm⟩:=EG k1 (by simp);subst hv Kd;have ad:(xs++[x,y]).length=xs.length+2:=(by simp);have af:(V++[s]).length=V.length+1:=(by simp);have hL:w.cell? (Y L 0 U)=Z (O (Z (Y g 0 U)) (xs.length+2) K):=(by simp[aN,h.lb]);have hG:w.cell? (Y G 0 U)=Z (O (Z (Y gk 0 U)) (V.length+1) X):=(by simp[aN,h.gb]);have zL:w.frozen? (Y L 0 U)=ak:=(by simp[World.frozen?,h.lb]);have zG:w.frozen? (Y G 0 U)=ak:=(by simp[World.frozen?,h.gb]);have lL:=J h.lb;have lG:=J h.gb;have lg:=J S;have lk:=J p;have Ba:L≠G:=(by rintro rfl;have:=h.lb.symm.trans h.gb;simp at this);have aX:g≠L:=(by rintro rfl;have:=S.symm.trans h.lb;simp at this);have ai:g≠G:=(by rintro rfl;have:=S.symm.trans h.gb;simp at this);have Rr:gk≠G:=(by rintro rfl;have:=p.symm.trans h.gb;simp at this);have Rq:gk≠L:=(by rintro rfl;have:=p.symm.trans h.lb;simp at this);have qZ:∀i (h:i<rX.length),rX[i].length=3:=fun i hi=>J3.len (k3 i (by omega) hi);have Dc:rX[V.length]'(by omega)=[.int I s.1,.int I (s.2.1:Int),.string (ba s.2.2)]:=(by have h9:=(k3 V.length (by omega) (by omega)).1;simpa using h9)
 have s0:w.cell? (Y gk (V.length*3) U)=Z (.int I s.1):=EH (n:=(V++[s]).length) p Hm k2 qZ (i:=V.length) (j:=0) (by omega) (by rw[Dc];rfl);have s1:w.cell? (Y gk (V.length*3+1) U)=Z (.int I (s.2.1:Int)):=EH (n:=(V++[s]).length) p Hm k2 qZ (i:=V.length) (j:=1) (by omega) (by rw[Dc];rfl);have s2:w.cell? (Y gk (V.length*3+2) U)=Z (.string (ba s.2.2)):=EH (n:=(V++[s]).length) p Hm k2 qZ (i:=V.length) (j:=2) (by omega) (by rw[Dc];rfl);have ae:ah (lE ok w B L G (O (Z (Y g 0 U)) (xs.length+2) K) (O (Z (Y gk 0 U)) (V.length+1) X) (xs++[x,y]) (V++[s])):=(by rw[ad,af] at h;exact h);have vF:∀i (h:i<f.length),f[i].length=7:=fun i hi=>(CO ok L G _).len (R i (by omega) hi);have Rk:f.length=xs.length+2:=(by rw[o2,ad]);obtain⟨x0,x1,x2,x3,x4,x5,jT,j7,x6,oL,oV,KM⟩:=(R xs.length (by omega) (by omega)).1;obtain⟨y0,y1,y2,y3,y4,y5,Ni,O9,y6,Nh,O8,KL⟩:=(R (xs.length+1) (by omega) (by omega)).1;obtain⟨W,q⟩:∃W,W=((w.setCell (Y G 0 U) (O (Z (Y gk 0 U)) V.length X)).alloc (M #[.int I s.1,.int I (s.2.1:Int),.string (ba s.2.2)] 81)):=⟨_,rfl⟩;have ao:W.heap.size=w.heap.size+1:=(by rw[q];simp[bw]);have Sp:W.heap[g]? =Z (M C 48):=(by rw[q];refine cR ?_;rw[dL _ _ _ _ ai];exact S);have Lb:W.heap[L]? =Z (M #[O (Z (Y g 0 U)) (xs.length+2) K] 46):=(by rw[q];refine cR ?_;rw[dL _ _ _ _ Ba];rw[ae.lb]);have ar:ah (W.heap[w.heap.size]? =Z (M #[.int I s.1,.int I (s.2.1:Int),.string (ba s.2.2)] 81)):=(by show _=_;rw[q];have e:(w.setCell (Y G 0 U) (O (Z (Y gk 0 U)) V.length X)).heap.size=w.heap.size:=(by simp[bw]);rw[<-e];exact cu _ _ _ rfl)
 have uW:∀w':au,w'.heap[g]? =Z (M C 48)->w'.heap[w.heap.size]? =Z (M #[.int I s.1,.int I (s.2.1:Int),.string (ba s.2.2)] 81)->w'.cell? (Y w.heap.size 1 U)=Z (.int I (s.2.1:Int))/\w'.cell? (Y w.heap.size 2 U)=Z (.string (ba s.2.2))/\w'.cell? (Y g (xs.length*7) U)=Z (.int I x0)/\w'.cell? (Y g (xs.length*7+1) U)=Z (.int I x1)/\w'.cell? (Y g (xs.length*7+2) U)=Z (.int I x2)/\w'.cell? (Y g (xs.length*7+3) U)=Z (.int I x3)/\w'.cell? (Y g (xs.length*7+4) U)=Z (.string x4)/\w'.cell? (Y g (xs.length*7+5) U)=Z (O x5 jT j7)/\w'.cell? (Y g (xs.length*7+6) U)=Z (O x6 oL oV)/\w'.cell? (Y g ((xs.length+1)*7) U)=Z (.int I y0)/\w'.cell? (Y g ((xs.length+1)*7+1) U)=Z (.int I y1)/\w'.cell? (Y g ((xs.length+1)*7+2) U)=Z (.int I y2)/\w'.cell? (Y g ((xs.length+1)*7+3) U)=Z (.int I y3)/\w'.cell? (Y g ((xs.length+1)*7+4) U)=Z (.string y4)/\w'.cell? (Y g ((xs.length+1)*7+5) U)=Z (O y5 Ni O9)/\w'.cell? (Y g ((xs.length+1)*7+6) U)=Z (O y6 Nh O8):=(by intro w' h1 h2;have l:∀j u,(f[xs.length]'(by omega))[j]? =Z u->w'.cell? (Y g (xs.length*7+j) U)=Z u:=fun j u N=>EH (n:=(xs++[x,y]).length) h1 xq o2 vF (by omega) N;have m:∀j u,(f[xs.length+1]'(by omega))[j]? =Z u->w'.cell? (Y g ((xs.length+1)*7+j) U)=Z u:=fun j u N=>EH (n:=(xs++[x,y]).length) h1 xq o2 vF (by omega) N;rw[KM] at l;rw[KL] at m;obtain⟨⟨_,e1,e2⟩,_⟩:=ox h2;exact⟨e1,e2,l 0 _ rfl,l 1 _ rfl,l 2 _ rfl,l 3 _ rfl,l 4 _ rfl,l 5 _ rfl,l 6 _ rfl,m 0 _ rfl,m 1 _ rfl,m 2 _ rfl,m 3 _ rfl,m 4 _ rfl,m 5 _ rfl,m 6 _ rfl⟩)
 have Cn:ah (∀w',Bl W w'->w'.cell? (Y w.heap.size 1 U)=Z (.int I (s.2.1:Int))/\w'.cell? (Y w.heap.size 2 U)=Z (.string (ba s.2.2))/\w'.cell? (Y g (xs.length*7) U)=Z (.int I x0)/\w'.cell? (Y g (xs.length*7+1) U)=Z (.int I x1)/\w'.cell? (Y g (xs.length*7+2) U)=Z (.int I x2)/\w'.cell? (Y g (xs.length*7+3) U)=Z (.int I x3)/\w'.cell? (Y g (xs.length*7+4) U)=Z (.string x4)/\w'.cell? (Y g (xs.length*7+5) U)=Z (O x5 jT j7)/\w'.cell? (Y g (xs.length*7+6) U)=Z (O x6 oL oV)/\w'.cell? (Y g ((xs.length+1)*7) U)=Z (.int I y0)/\w'.cell? (Y g ((xs.length+1)*7+1) U)=Z (.int I y1)/\w'.cell? (Y g ((xs.length+1)*7+2) U)=Z (.int I y2)/\w'.cell? (Y g ((xs.length+1)*7+3) U)=Z (.int I y3)/\w'.cell? (Y g ((xs.length+1)*7+4) U)=Z (.string y4)/\w'.cell? (Y g ((xs.length+1)*7+5) U)=Z (O y5 Ni O9)/\w'.cell? (Y g ((xs.length+1)*7+6) U)=Z (O y6 Nh O8)):=fun w' hb=>uW w' ((hb.block _ (by omega)).trans Sp) ((hb.block _ (by omega)).trans ar);have aZ:W.cell? (Y L 0 U)=Z (O (Z (Y g 0 U)) (xs.length+2) K):=(by simp[aN,Lb]);have a0:W.frozen? (Y L 0 U)=ak:=(by simp[World.frozen?,Lb]);have av:ah (∀w':au,w'.heap[g]? =Z (M C 48)->∀b,Z ((Y g 0 U):Addr)=Z b->∀j u,(f.take xs.length).flatten[j]? =Z u->w'.cell? (b.add j)=Z u):=fun w' h1=>ahB (n:=(xs++[x,y]).length) h1 xq;have ax:ah ((f.take xs.length).flatten.length=xs.length*7):=(by show _=_;have h9:(f.take xs.length).length=xs.length:=(by rw[List.length_take,Rk];omega);rw[abb (sz:=7) (fun i hi=>by rw[List.getElem_take];exact vF i (by rw[h9] at hi;omega)),h9]);have ay:ah (W.heap[L]? =Z (M #[O (Z (Y g 0 U)) (xs.length+2) K] 46)):=Lb;have AO:ah (∀w',Bl W w'->w'.cell? (Y L 0 U)=Z (O (Z (Y g 0 U)) (xs.length+2) K)):=fun w' hb=>by
  have:=(hb.block L (by omega)).trans Lb;simp[aN,this]
 have Mt:ah (W.heap[g]? =Z (M C 48)):=Sp;have oE:ah (f.length=xs.length+2):=Rk;have a1:L<W.heap.size:=(by omega);have a2:g<W.heap.size:=(by omega);have a3:w.heap.size<W.heap.size:=(by omega);have a4:xs.length+2<=K:=(by omega);have wh:ah (∀i (h:i<(xs++[x,y]).length) (h':i<f.length),uX ok L G (O (Z (Y gk 0 U)) (V.length+1) X) w (SB B (O (Z (Y g 0 U)) (xs++[x,y]).length K)) (xs++[x,y])[i] f[i]):=R;have aG:ah (f[xs.length]'(by omega)=_):=KM;have aH:ah (f[xs.length+1]'(by omega)=_):=KL;have aI:ah (W=_):=q;clear h uW o1 R Dc qZ k1 k2 k3 xq Hm vF Rk KM KL Sp Lb gH Sy S p;unfold maxLen at KN SA;obtain⟨i0,gT,cL,bZ,bA⟩:=info_parts Tryz.J4;go_enter func151,ntmps151;go_wp2;rw[<-q];clear q hL hG zL zG s0 s1 s2;have rO:(xs.length:Int)<=(K:Int):=(by omega);have a5:¬((xs.length:Int)+2<=(xs.length:Int)):=(by omega);have a6:¬((xs.length:Int)+2<=(xs.length:Int)+1):=(by omega);have a7:¬((xs.length:Int)+1<0):=(by omega);have a8:IntKind.i64.wrap ((xs.length:Int)+2 - 1)=(xs.length:Int)+1:=(by rw[IntKind.wrap_i64];omega);have a9:IntKind.i64.wrap (xs.length:Int)=(xs.length:Int):=(by rw[IntKind.wrap_i64];omega);have bb:IntKind.i64.wrap ((xs.length:Int)+1)=(xs.length:Int)+1:=(by rw[IntKind.wrap_i64];omega);have lq:(0:Int)<=(xs.length:Int):=(by omega);refine afH (T:=fun w'=>Bl W w') 24 (by kernel_rfl) ?_;have d:Bl W W.drew:=Dt (aF _ _);refine oY (i:=0) (v:=O (Z (Y g 0 U)) (xs.length+2) K) rfl (by kernel_rfl) (by kernel_rfl) (by kernel_rfl) (by kernel_rfl) (fun _ _ _ h=>h) (Or.inl ⟨by rfl,fun c a=>by have hl:=AO.out c a;clear a;go_simp⟩) d ?_;simp only[aU];refine oY (i:=1) (v:=.int I ((xs.length:Int)+2)) rfl (by kernel_rfl) (by kernel_rfl) (by kernel_rfl) (by kernel_rfl) (fun _ _ _ h=>h) (Or.inl ⟨by rfl,fun c a=>by clear a;go_simp⟩) d ?_;simp only[aU]
 refine oY (i:=2) (v:=.int I (xs.length:Int)) rfl (by kernel_rfl) (by kernel_rfl) (by kernel_rfl) (by kernel_rfl) (fun _ _ _ h=>h) (Or.inl ⟨by rfl,fun c a=>by clear a;go_simp⟩) d ?_;simp only[aU];refine oY (i:=3) (v:=.int I ((xs.length:Int)+2)) rfl (by kernel_rfl) (by kernel_rfl) (by kernel_rfl) (by kernel_rfl) (fun _ _ _ h=>h) (Or.inl ⟨by rfl,fun c a=>by clear a;go_simp⟩) d ?_;simp only[aU];refine oY (i:=4) (v:=.int I (xs.length:Int)) rfl (by kernel_rfl) (by kernel_rfl) (by kernel_rfl) (by kernel_rfl) (fun _ _ _ h=>h) (Or.inl ⟨by rfl,fun c a=>by clear a;go_simp⟩) d ?_;simp only[aU];refine oY (i:=5) (v:=O (Z (Y g 0 U)) xs.length xs.length) rfl (by kernel_rfl) (by kernel_rfl) (by kernel_rfl) (by kernel_rfl) (fun _ _ _ h=>h) (Or.inl ⟨by rfl,fun c a=>by clear a;go_simp⟩) d ?_;simp only[aU];refine oY (i:=6) (v:=aB (Z (Y w.heap.size 1 U))) rfl (by kernel_rfl) (by kernel_rfl) (by kernel_rfl) (by kernel_rfl) (fun _ _ _ h=>h) (Or.inl ⟨by rfl,fun c a=>by clear a;go_simp⟩) d ?_;simp only[aU];refine oY (i:=7) (v:=.int I (s.2.1:Int)) rfl (by kernel_rfl) (by kernel_rfl) (by kernel_rfl) (by kernel_rfl) (fun _ _ _ h=>h) (Or.inl ⟨by rfl,fun c a=>by obtain⟨c1,_⟩:=Cn.out c a;clear a;go_simp⟩) d ?_;simp only[aU];refine oY (i:=8) (v:=aB (Z (Y w.heap.size 2 U))) rfl (by kernel_rfl) (by kernel_rfl) (by kernel_rfl) (by kernel_rfl) (fun _ _ _ h=>h) (Or.inl ⟨by rfl,fun c a=>by clear a;go_simp⟩) d ?_;simp only[aU];refine oY (i:=9) (v:=.string (ba s.2.2)) rfl (by kernel_rfl) (by kernel_rfl) (by kernel_rfl) (by kernel_rfl) (fun _ _ _ h=>h) (Or.inl ⟨by rfl,fun c a=>by obtain⟨_,c2,_⟩:=Cn.out c a;clear a;go_simp⟩) d ?_;simp only[aU]
 refine oY (i:=10) (v:=O (Z (Y g 0 U)) (xs.length+2) K) rfl (by kernel_rfl) (by kernel_rfl) (by kernel_rfl) (by kernel_rfl) (fun _ _ _ h=>h) (Or.inl ⟨by rfl,fun c a=>by have hl:=AO.out c a;clear a;go_simp⟩) d ?_;simp only[aU];refine oY (i:=11) (v:=.int I ((xs.length:Int)+2)) rfl (by kernel_rfl) (by kernel_rfl) (by kernel_rfl) (by kernel_rfl) (fun _ _ _ h=>h) (Or.inl ⟨by rfl,fun c a=>by clear a;go_simp⟩) d ?_;simp only[aU];refine oY (i:=12) (v:=.int I (xs.length:Int)) rfl (by kernel_rfl) (by kernel_rfl) (by kernel_rfl) (by kernel_rfl) (fun _ _ _ h=>h) (Or.inl ⟨by rfl,fun c a=>by clear a;go_simp⟩) d ?_;simp only[aU];refine oY (i:=13) (v:=aB (Z (Y g (xs.length*7) U))) rfl (by kernel_rfl) (by kernel_rfl) (by kernel_rfl) (by kernel_rfl) (fun _ _ _ h=>h) (Or.inl ⟨by rfl,fun c a=>by clear a;go_simp⟩) d ?_;simp only[aU];refine oY (i:=14) (v:=.agg #[.int I x0,.int I x1,.int I x2,.int I x3,.string x4,O x5 jT j7,O x6 oL oV]) rfl (by kernel_rfl) (by kernel_rfl) (by kernel_rfl) (by kernel_rfl) (fun _ _ _ h=>h) (Or.inl ⟨by rfl,fun c a=>by have h:=Cn.out c a;exact abu (x:=.tmp 30) rfl (by simp[Act.eval]) h.2.2.1 h.2.2.2.1 h.2.2.2.2.1 h.2.2.2.2.2.1 h.2.2.2.2.2.2.1 h.2.2.2.2.2.2.2.1 h.2.2.2.2.2.2.2.2.1⟩) d ?_;simp only[aU];refine oY (i:=15) (v:=O (Z (Y g 0 U)) (xs.length+2) K) rfl (by kernel_rfl) (by kernel_rfl) (by kernel_rfl) (by kernel_rfl) (fun _ _ _ h=>h) (Or.inl ⟨by rfl,fun c a=>by have hl:=AO.out c a;clear a;go_simp⟩) d ?_;simp only[aU];refine oY (i:=16) (v:=.int I ((xs.length:Int)+2)) rfl (by kernel_rfl) (by kernel_rfl) (by kernel_rfl) (by kernel_rfl) (fun _ _ _ h=>h) (Or.inl ⟨by rfl,fun c a=>by clear a;go_simp⟩) d ?_;simp only[aU]
 refine oY (i:=17) (v:=.int I ((xs.length:Int)+1)) rfl (by kernel_rfl) (by kernel_rfl) (by kernel_rfl) (by kernel_rfl) (fun _ _ _ h=>h) (Or.inl ⟨by rfl,fun c a=>by clear a;go_simp⟩) d ?_;simp only[aU];refine oY (i:=18) (v:=aB (Z (Y g ((xs.length+1)*7) U))) rfl (by kernel_rfl) (by kernel_rfl) (by kernel_rfl) (by kernel_rfl) (fun _ _ _ h=>h) (Or.inl ⟨by rfl,fun c a=>by clear a;go_simp⟩) d ?_;simp only[aU];refine oY (i:=19) (v:=.agg #[.int I y0,.int I y1,.int I y2,.int I y3,.string y4,O y5 Ni O9,O y6 Nh O8]) rfl (by kernel_rfl) (by kernel_rfl) (by kernel_rfl) (by kernel_rfl) (fun _ _ _ h=>h) (Or.inl ⟨by rfl,fun c a=>by have h:=Cn.out c a;exact abu (x:=.tmp 35) rfl (by simp[Act.eval]) h.2.2.2.2.2.2.2.2.2.1 h.2.2.2.2.2.2.2.2.2.2.1 h.2.2.2.2.2.2.2.2.2.2.2.1 h.2.2.2.2.2.2.2.2.2.2.2.2.1 h.2.2.2.2.2.2.2.2.2.2.2.2.2.1 h.2.2.2.2.2.2.2.2.2.2.2.2.2.2.1 h.2.2.2.2.2.2.2.2.2.2.2.2.2.2.2⟩) d ?_;simp only[aU];refine Pq (i:=20) (by kernel_rfl) rfl (fun t k=> ?_);go_simp;refine k.out _ _ (fun _=>Dt (FU (aF _ _) _ (aD _))) ?_;clear k t;obtain⟨W1,BK⟩:=nm ((W.alloc (M #[.int I x0,.int I x1,.int I x2,.int I x3,.string x4,O x5 jT j7,O x6 oL oV,.int I y0,.int I y1,.int I y2,.int I y3,.string y4,O y5 Ni O9,O y6 Nh O8] 48)).drew);have P:Bl W W1:=(by rw[BK];exact Dt (FU (aF _ _) _ (aD _)));have xj:W1.heap.size=w.heap.size+2:=(by rw[BK];show(W.heap.push _).size=_;rw[Array.size_push,ao]);try simp only[aU]
 rw[<-BK];have F5:=am BK;clear BK;refine oY (i:=21) (v:=.agg #[.int I 3,.int I (s.2.1:Int),.int I 0,.int I 0,.string (ba s.2.2),O U 0 0,O (Z (Y (w.heap.size+1) 0 U)) 2 2]) rfl (by kernel_rfl) (by kernel_rfl) (by kernel_rfl) (by kernel_rfl) (fun _ _ _ h=>h) (Or.inl ⟨by rfl,fun c a=>by clear a;go_simp⟩) P ?_;try simp only[aU]
 refine Pq (i:=22) (by kernel_rfl) rfl (fun t k=> ?_);go_simp;refine k.out _ _ (fun _=>FU P _ P.size) ?_;clear k t;obtain⟨W2,Q⟩:=nm (W1.alloc (M #[.int I 3,.int I (s.2.1:Int),.int I 0,.int I 0,.string (ba s.2.2),O U 0 0,O (Z (Y (w.heap.size+1) 0 U)) 2 2] 48));have o:Bl W W2:=(by rw[Q];exact FU P _ P.size);have NJ:W2.heap.size=w.heap.size+3:=(by rw[Q];show(W1.heap.push _).size=_;rw[Array.size_push,xj]);have Fj:∀j u,([.int I 3,.int I (s.2.1:Int),.int I 0,.int I 0,.string (ba s.2.2),O U 0 0,O (Z (Y (w.heap.size+1) 0 U)) 2 2]:Lv)[j]? =Z u->W2.cell? (((Y (w.heap.size+2) 0 U):Addr).add j)=Z u:=(by rw[Q,<-xj];exact JH _ _);try simp only[aU]
 rw[<-Q];have AE:=am Q;clear Q;refine Pq (i:=23) (by kernel_rfl) rfl (fun t k=> ?_);refine step_append_grows rfl (.tmp 22) (.tmp 39) 46 rfl 48 i0 (.agg #[.int I 0,.int I 0,.int I 0,.int I 0,.string ⟨#[]⟩,O U 0 0,O U 0 0]) 7 96 underlying46 gT cL bZ bA rfl (by decide) (Z (Y g 0 U)) xs.length xs.length (f.take xs.length).flatten (by simp[Act.eval]) (by simp) ax (av.out _ ((o.block _ (by omega)).trans Mt)) (Y (w.heap.size+2) 0 U) 1 1 [.int I 3,.int I (s.2.1:Int),.int I 0,.int I 0,.string (ba s.2.2),O U 0 0,O (Z (Y (w.heap.size+1) 0 U)) 2 2] (by simp[Act.eval]) rfl Fj (by intro u N;simp only[fN,kD,or_false] at N;rcases N with rfl | rfl | rfl | rfl | rfl | rfl | rfl<;>rfl) (by omega) (by unfold maxLen;omega) (by omega) ?_;intro v' E li z;obtain⟨F,gO,bc,R0,Ld,mF,Hu,Sg,sR,R4⟩:=EG li (by omega);subst R0;have aJ:=am li;have K7:Below _ _ _:=⟨z.os.trans o.os,z.tape.trans o.tape,z.output.trans o.output,fC o.size z.size,fun j hj=>(z.block j (Nat.lt_of_lt_of_le hj o.size) (by simp)).trans (o.block j hj)⟩;refine k.out _ _ (fun _=>K7) ?_;clear k t;try simp only[aU]
 have be:=AO.out E K7;have bf:E.frozen? (Y L 0 U)=ak:=(by have:=(K7.block L (by omega)).trans ay;simp[World.frozen?,this]);have uS:=am z;have bg:=am K7;have xY:=am Ld;clear li z Ld mF Hu Sg sR R4 K7 d P o Fj;refine Pq (i:=24) (by kernel_rfl) rfl (fun t k=> ?_);go_simp;refine k.out _ _ (fun h=>absurd rfl h) ?_;clear k t;refine LK (by kernel_rfl) ?_ _;try simp only[aU]
 go_wp2
 go_end0
 refine⟨rfl,?_⟩;exact afY hB ae Ba Rq Rr oE wh aG aH aI rfl F5 AE uS xY aJ
namespace ag
def zS (P:List Tok->aA Tr)(R:aA Tr)(st:List (Tr×Tok))(x:Tr)(ts:List Tok):Prop:=
 (∀l r,Left P r ts l->R=.ok (GG st x l) r)/\∀s q c p,ts=s::q->0<dh s->zt P q c p->R=.no c p
theorem aot (a:du P)(h:P ts=.ok x q):zS P (bd P 5 ts) [] x q:=by
 refine⟨fun l r d=> ?_,fun s i c p e b hn=> ?_⟩
 ·cases d with
  | none f=>exact abl a (.last h f)
  | some b g=>exact abl a (.more h b g)
 ·subst e;exact abm a (.more h b hn)
theorem aos (a:du P)(h:P ts=.no c p):bd P 5 ts=.no c p:=abm a (.here h)
theorem abJ {st:List (Tr×Tok)}{s:Tok}{b:List Tok}(h:zS P R st x (s::q))(d:0<dh s)(a:P q=.ok y b):zS P R (((ko st x (dh s)).2,s)::(ko st x (dh s)).1) y b:=by
 refine⟨fun l r f=> ?_,fun n o c p e g hn=> ?_⟩
 ·have i:Seq P q y l r:=by
   cases f with
   | none j=>exact .last a j
   | some k m=>exact .more a k m
  exact h.1 _ r (.some d i)
 ·subst e;exact h.2 s q c p rfl d (.more a g hn)
theorem TG {st:List (Tr×Tok)}{s:Tok}(h:zS P R st x (s::q))(a:0<dh s)(b:P q=.no c p):R=.no c p:=h.2 s q c p rfl a (.here b)
theorem aou {st:List (Tr×Tok)}(h:zS P R st x ts)(a:dW (nx ts).2.2=0):R=.ok (ko st x 0).2 ts:=h.1 [] ts (.none a)
def jn (xs:List Tr)(ss:List Tok):List (Tr×Tok):=(xs.zip ss).reverse
theorem QH {xs:List Tr}{s:Tok}(h:xs.length=V.length):jn (xs++[x]) (V++[s])=(x,s)::jn xs V:=by
 unfold jn;rw[List.zip_append h];simp
theorem XD {xs:List Tr}{s:Tok}{v:Nat}(h:xs.length=V.length)(a:v<=dh s):ko (jn (xs++[o]) (V++[s])) x v=ko (jn xs V) (eK s [o,x]) v:=by
 rw[QH h];show(if v<=dh s then _ else _)=_;rw[if_pos a]
theorem agK {xs:List Tr}{s:Tok}{v:Nat}(h:xs.length=V.length)(a:¬v<=dh s):ko (jn (xs++[o]) (V++[s])) x v=(jn (xs++[o]) (V++[s]),x):=by
 rw[QH h];show(if v<=dh s then _ else _)=_;rw[if_neg a]
theorem RJ {l:Lu}(a:Lex.dY (Lex.c0 l)=ap):dW l=0:=by
 apply Classical.byContradiction;intro h;have hm:l∈[[124,124],[38,38],[61,61],[33,61],[60],[60,61],[62],[62,61],[43],[45],[42],[47],[37]]:=by
  apply Classical.byContradiction;intro hn;apply h;simp only[fN,kD,or_false,not_or] at hn;unfold dW;simp[hn]
 simp only[fN,kD,or_false] at hm;rcases hm with rfl | rfl | rfl | rfl | rfl | rfl | rfl | rfl | rfl | rfl | rfl | rfl | rfl<;>revert a<;>decide
theorem ajs {t:Tok}(b:Lex.Gp (Lex.bare t))(h:t.1≠4):dW t.2.2=0:=by
 rcases b with⟨_,c⟩|⟨d,_⟩|⟨_,e,_⟩|⟨_,f⟩
 ·exact RJ (by have a:Lex.gx (Lex.c0 t.2.2)=ap:=Lex.Wu c;unfold Lex.dY;rw[a];rfl)
 ·exact absurd d h
 ·exact RJ (by have a:Lex.gx (Lex.c0 t.2.2)=ap:=e;unfold Lex.dY;rw[a];rfl)
 ·exact RJ (by have a:Lex.ej (Lex.c0 t.2.2)=ap:=f;unfold Lex.dY;rw[a];simp)
end ag
theorem Na {a:Nat}{c:Av}(h:w.ownsRow B e sz v n xs)(d:w.heap[a]? =Z (M c e'))(f:e≠e'):(w.setCell (Y a 0 U) u).ownsRow B e sz v n xs:=by
 refine⟨h.1,?_⟩;rcases h.2 with h |⟨g,K,C,i,j,b,k⟩
 ·exact .inl h
 ·refine .inr ⟨g,K,C,i,j,?_,k⟩
  rw[dL _ _ _ _ (by
   rintro rfl;have:=b.symm.trans d;simp at this
   exact f this.2)]
  exact b
theorem JA {c:Av}(h:w.ownsRow B e sz v n xs)(f:w.heap[b]? =Z (M c e'))(i:e'≠e):Z b≠v.ownBlock:=fun a=>by
 rcases h.2 with⟨d,_⟩|⟨g,K,C,d,_,j,_⟩
 ·rw[d] at a;cases a
 ·rw[d] at a;cases a;have:=f.symm.trans j;simp at this;exact i this.2
def zY (w:au)(b o:Nat)(x0 x1 x2 x3 x4 x5 x6:aw):au:=
 ((((((w.setCell (Y b o U) x0).setCell (Y b (o+1) U) x1).setCell (Y b (o+2) U) x2).setCell (Y b (o+3) U) x3).setCell (Y b (o+4) U) x4).setCell (Y b (o+5) U) x5).setCell (Y b (o+6) U) x6
theorem ahA (h:w.ownsRow B e 7 (O (Z (Y g 0 U)) n K) n (xs++[y0,y1,y2,y3,y4,y5,y6]))(o:Nat)(k:xs.length=o)(a b c d f i j:aw):
 (zY w g o a b c d f i j).ownsRow B e 7 (O (Z (Y g 0 U)) n K) n (xs++[a,b,c,d,f,i,j])/\w.grownBy (zY w g o a b c d f i j) (Z g):=by
 subst k;obtain⟨l,m⟩:=h.stored xs.length a;obtain⟨p,q⟩:=l.stored (xs.length+1) b;obtain⟨r,s⟩:=p.stored (xs.length+2) c;obtain⟨t,u⟩:=r.stored (xs.length+3) d;obtain⟨v,x⟩:=t.stored (xs.length+4) f;obtain⟨y,z⟩:=v.stored (xs.length+5) i;obtain⟨C,E⟩:=y.stored (xs.length+6) j;refine⟨?_,(((((m.trans q).trans s).trans u).trans x).trans z).trans E⟩;have e:((((((((xs++[y0,y1,y2,y3,y4,y5,y6]).set xs.length a).set (xs.length+1) b).set (xs.length+2) c).set (xs.length+3) d).set (xs.length+4) f).set (xs.length+5) i).set (xs.length+6) j)=xs++[a,b,c,d,f,i,j]:=by
  simp
 rw[<-e];exact C
theorem set_comm (w:au){a b:Addr}(u v:aw)(h:a.block≠b.block):(w.setCell a u).setCell b v=(w.setCell b v).setCell a u:=by
 unfold bw
 congr 1
 apply Array.ext_getElem?;intro i;simp only[dM];by_cases c:a.block=i
 ·have d:b.block≠i:=(by omega);simp[c,d]
 ·simp[c]
theorem W8 (w:au){o:Nat}(u:aw)(h:L≠g)(a b c d e f i:aw):zY (w.setCell (Y L 0 U) u) g o a b c d e f i=(zY w g o a b c d e f i).setCell (Y L 0 U) u:=by
 unfold zY;rw[set_comm w u a h,set_comm _ u b h,set_comm _ u c h,set_comm _ u d h,set_comm _ u e h,set_comm _ u f h,set_comm _ u i h]
theorem ahD {l d:au}{y:Nat}{xs:List Tr}{a:Tr}{css:List (Lv)}{z0 z1 z2 p:Int}{q:Bt}{r:Oa}{s d5:Nat}{t:Oa}{u d6:Nat}(h:lE ok d B L G lv sv xs V)(hB:B<=l.heap.size)(hL:L<l.heap.size)(hG:G<l.heap.size)(h0:l.heap.size<=d.heap.size)(er:∀k,lv.ownBlock=Z k->k<l.heap.size)(ad:∀k,sv.ownBlock=Z k->k<l.heap.size)
 (hc:css.length=xs.length) (p1:d.ownsRow B 48 7 lv xs.length css.flatten) (p3:∀i (h:i<xs.length) (h':i<css.length),uX ok L G sv d (SB B lv) xs[i] css[i])
 (hx:ok->aS d (fun b=>l.heap.size<=b) a [.int I z0,.int I z1,.int I z2,.int I p,.string q,O r s d5,O t u d6])
 (bF:E.ownsRow B 48 7 (O (Z (Y F 0 U)) (xs.length+1) y) (xs.length+1) (css.flatten++[y0,y1,y2,y3,y4,y5,y6])) (m:d.grownBy E lv.ownBlock) (S:lv.ownBlock=Z F\/F=d.heap.size):
 L≠F/\lE ok ((zY E F (xs.length*7) (.int I z0) (.int I z1) (.int I z2) (.int I p) (.string q) (O r s d5) (O t u d6)).setCell (Y L 0 U) (O (Z (Y F 0 U)) (xs.length+1) y)) B L G (O (Z (Y F 0 U)) (xs.length+1) y) sv (xs++[a]) V/\
  d.grownBy (zY E F (xs.length*7) (.int I z0) (.int I z1) (.int I z2) (.int I p) (.string q) (O r s d5) (O t u d6)) lv.ownBlock:=by
 have aG:=p1.1;obtain⟨q1,n⟩:=ahA bF _ aG (.int I z0) (.int I z1) (.int I z2) (.int I p) (.string q) (O r s d5) (O t u d6);obtain⟨T,NR⟩:=nm (zY E F (xs.length*7) (.int I z0) (.int I z1) (.int I z2) (.int I p) (.string q) (O r s d5) (O t u d6));rw[<-NR] at q1 n⊢;clear NR;have v:d.grownBy T lv.ownBlock:=by
  refine⟨n.os.trans m.os,n.tape.trans m.tape,n.output.trans m.output,fC m.size n.size,fun j hj hn=> ?_⟩;have hs:=m.size;rw[n.block j (by omega) ?_,m.block j hj hn];rintro W;cases W;rcases S with f | f
  ·exact hn f.symm
  ·omega
 have lo:bO (uX ok L G sv) T B 48 7 (O (Z (Y F 0 U)) (xs.length+1) y) (xs++[a]):=(by refine bO.add (CO ok L G sv) (w:=l) (w1:=d) (css:=css) er hc p3 ⟨⟨_,_,_,_,_,_,_,_,_,_,_,rfl⟩,fun o=> ?_⟩ hB q1 v (S.imp (fun f=>by rw[f];rfl) (fun f=>by rw[f];rfl));refine(hx o).mono fun b x _=>⟨x,by omega,by omega,fun W=> ?_⟩;have:=ad b W.symm;omega);have z:∀{b:Nat} {c:Av} {e:TypeId},d.heap[b]? =Z (M c e)->e≠48->Z b≠lv.ownBlock:=fun{b c e} x he=>JA p1 x he;have X:=(v.block L (J h.lb) (z h.lb (by decide))).trans h.lb;have gb:=(v.block G (J h.gb) (z h.gb (by decide))).trans h.gb;have Ba:L≠G:=(by rintro rfl;have:=h.lb.symm.trans h.gb;simp at this);have ae:L≠F:=by
  rintro rfl;rcases S with f | f
  ·exact z h.lb (by decide) f.symm
  ·omega
 refine⟨ae,⟨by simp[bw,dM,X],(dL _ _ _ _ (Ne.symm Ba)).trans gb,?_,?_⟩,v⟩
 ·obtain⟨Lz,N,o2,P⟩:=lo.ex;refine⟨Lz,Na N X (by decide),o2,fun i Q R=>⟨(P i Q R).1,fun o=> ?_⟩⟩;refine((P i Q R).2 o).keeps ⟨?_,fun b x _=> ?_⟩
  ·simp[bw]
  ·exact dL _ _ _ _ x.2.1
 ·obtain⟨LA,N,o2,P⟩:=h.go.ex;have Rl:T.ownsRow B 81 3 sv V.length LA.flatten:=by
   refine⟨N.1,?_⟩;rcases N.2 with f |⟨g,K,C,h1,h2,h3,h4⟩
   ·exact .inl f
   ·exact .inr ⟨g,K,C,h1,h2,(v.block g (J h3) (z h3 (by decide))).trans h3,h4⟩
  exact⟨LA,Na Rl X (by decide),o2,fun i Q R=>P i Q R⟩
section
variable {P:Program} {ops:Array Oper} {Q:Exit->Act->au->Prop} {md:Region.Mode}
def SL (m:Nat)(T:au->Prop):Nat->au->Prop:=fun j w=>j<m->T w
def Ww (md:Region.Mode)(ops:Array Oper)(m i:Nat):Bool:=(List.range ops.size).all fun j=>decide (j<m) || Jk md ops j i
theorem T3 {T:au->Prop}(d:Tmp){e:Oper}{ls:Array Bool}{a:Act}(o:ops[i]? =Z e)(q:e.dst=Z d)(r:Region.noSelect ops=ap)(hf:Region.free md ops ls i=ap)(s:(Region.ready md ops ls).contains i=ap)(g:Ww md ops m i=ap)
 (t:∀c a w,Q (.panic c) (a.put e.dst v) w->Q (.panic c) a w) (u:YieldsIf P ops T e v a) (x:T w) (h:n8 P md ops Q (SL m T) n (ls.setIfInBounds i ap) (a.put (Z d) v) w):n8 P md ops Q (SL m T) (n+1) ls a w:=by
 refine T4 o (Region.noSelect_spec r) t (fun j G p _ y w l=>l ?_) (fun w l _=>l) n ls a w (Region.free_spec o hf) (by simpa using s) u x (by rw[q];exact h);apply Classical.byContradiction;intro z;have B:j<ops.size:=(Array.getElem?_eq_some_iff.1 p).1;unfold Ww at g;rw[List.all_eq_true] at g;have b:=g j (List.mem_range.2 B);have f:Jk md ops j i=ap:=by
  rcases Bool.or_eq_true _ _▸b with b | b
  ·exact absurd (of_decide_eq_true b) z
  ·exact b
 unfold Jk at f;rw[p] at f;simp only[Array.any_eq_true,Bool.and_eq_true,beq_iff_eq] at f;obtain⟨k,C,E,F⟩:=f;exact y _ (Array.getElem_mem C) E F
theorem acn {T:au->Prop}(d:Tmp){b:Oper}{ls:Array Bool}{a:Act}(e:ops[i]? =Z b)(f:b.dst=Z d)(hm:m<=i)(g:Region.noSelect ops=ap)(hf:Region.free md ops ls i=ap)(j:(Region.ready md ops ls).contains i=ap)
 (k:∀c a w,Q (.panic c) (a.put b.dst v) w->Q (.panic c) a w) (l:YieldsIf P ops (fun _=>True) b v a) (h:n8 P md ops Q (SL m T) n (ls.setIfInBounds i ap) (a.put (Z d) v) w):n8 P md ops Q (SL m T) (n+1) ls a w:=
 T4 e (Region.noSelect_spec g) k (fun _ _ _ _ _ _ _=>trivial) (fun w _ h=>absurd h (Nat.not_lt.2 hm)) n ls a w (Region.free_spec e hf) (by simpa using j) l trivial (by rw[f];exact h)
theorem Dw {T:au->Prop}{o:Oper}{ls:Array Bool}{a:Act}(c:Region.ready md ops ls=[i])(d:ops[i]? =Z o)(h:∀b:Act->au->Prop,Shut (∀a w,(i<m->T w)->n8 P md ops Q (SL m T) n (ls.setIfInBounds i ap) a w->b a w)->if Region.wanted o (yielded ops a.tmps)=ap then Oper.wp P o a w b Q else b (a.put o.dst undef) w):n8 P md ops Q (SL m T) (n+1) ls a w:=by
 refine T5 c (by simp) (fun j e=> ?_);cases List.mem_singleton.1 e;exact wpOp_step d (fun b f=>h b (fun a w hS g=>f a w ⟨hS,g⟩))
theorem T2 {T:au->Prop}{c d:Oper}{ls:Array Bool}{a:Act}(h:Region.ready md ops ls=[i,j])(l:ops[i]? =Z c)(o:ops[j]? =Z d)
 (p:∀b:Act->au->Prop,Shut (∀a w,(i<m->T w)->n8 P md ops Q (SL m T) n (ls.setIfInBounds i ap) a w->b a w)->if Region.wanted c (yielded ops a.tmps)=ap then Oper.wp P c a w b Q else b (a.put c.dst undef) w)
 (q:∀b:Act->au->Prop,Shut (∀a w,(j<m->T w)->n8 P md ops Q (SL m T) n (ls.setIfInBounds j ap) a w->b a w)->if Region.wanted d (yielded ops a.tmps)=ap then Oper.wp P d a w b Q else b (a.put d.dst undef) w):n8 P md ops Q (SL m T) (n+1) ls a w:=by
 refine T5 h (by simp) (fun k g=> ?_);simp only[fN,kD,or_false] at g;rcases g with rfl | rfl
 ·exact wpOp_step l (fun b e=>p b (fun a w hS f=>e a w ⟨hS,f⟩))
 ·exact wpOp_step o (fun b e=>q b (fun a w hS f=>e a w ⟨hS,f⟩))
theorem afI {T:au->Prop}(m:Nat){a:Act}(hm:P.follows .mixedOrders=ap)(h:n8 P .any ops Q (SL m T) ops.size (Array.replicate ops.size ak) a w.drew):(Code.region id ops ap).wp P Q a w:=Xi hm h
end
theorem TO (c:Int)(w:au):aC prog 168 #[.int .u8 c] w fun e w'=>e=aE (.bool (Lex.mi c))/\w'=w:=by
 by_cases a:c=32
 ·subst a;go_enter func168,ntmps168;go_wp2;go_ret;exact⟨rfl,rfl⟩
 ·by_cases b:c=9
  ·subst b;go_enter func168,ntmps168;go_wp2;go_ret;exact⟨rfl,rfl⟩
  ·have d:(c==32)=ak:=(by simp[a]);have f:(c==9)=ak:=(by simp[b]);have g:Lex.mi c=(c==10):=(by simp[Lex.mi,d,f]);rw[g];go_enter func168,ntmps168;go_wp2;go_ret;exact⟨rfl,rfl⟩
theorem YE (c:Int)(w:au):aC prog 169 #[.int .u8 c] w fun e w'=>e=aE (.bool (Lex.kT c))/\w'=w:=by
 go_enter func169,ntmps169;go_wp2;go_ret;exact⟨rfl,rfl⟩
theorem Dn (c:Int)(w:au):aC prog 132 #[.int .u8 c] w fun e w'=>e=aE (.bool (Lex.ej c))/\w'=w:=by
 by_cases a:48<=c
 ·have b:Lex.ej c=decide (c<=57):=(by simp[Lex.ej,a]);rw[b];go_enter func132,ntmps132;go_wp2;go_ret;exact⟨rfl,rfl⟩
 ·have b:Lex.ej c=ak:=(by simp[Lex.ej,a]);have d:decide (48<=c)=ak:=(by simp[a]);rw[b];go_enter func132,ntmps132;go_wp2;go_ret;exact⟨rfl,rfl⟩
theorem BW (c:Int)(w:au):aC prog 85 #[.int .u8 c] w fun e w'=>e=aE (.bool (Lex.gx c))/\w'=w:=by
 by_cases d:97<=c
 ·by_cases f:c<=122
  ·have a:Lex.gx c=ap:=(by simp[Lex.gx];omega);rw[a];go_enter func85,ntmps85;go_wp2;go_ret;exact⟨rfl,rfl⟩
  ·have a:Lex.gx c=ak:=(by simp[Lex.gx];omega);have b:(c==95)=ak:=(by simp;omega);have g:¬c<=90:=(by omega);have h:65<=c:=(by omega);rw[a];go_enter func85,ntmps85;go_wp2;go_ret;exact⟨rfl,rfl⟩
 ·by_cases i:65<=c
  ·by_cases j:c<=90
   ·have a:Lex.gx c=ap:=(by simp[Lex.gx];omega);rw[a];go_enter func85,ntmps85;go_wp2;go_ret;exact⟨rfl,rfl⟩
   ·have a:Lex.gx c=(c==95):=(by rw[Bool.eq_iff_iff];simp[Lex.gx];omega);rw[a];go_enter func85,ntmps85;go_wp2;go_ret;exact⟨rfl,rfl⟩
  ·have a:Lex.gx c=ak:=(by simp[Lex.gx];omega);have b:(c==95)=ak:=(by simp;omega);rw[a];go_enter func85,ntmps85;go_wp2;go_ret;exact⟨rfl,rfl⟩
theorem Ym (c:Int)(w:au):aC prog 87 #[.int .u8 c] w fun e w'=>e=aE (.bool (Lex.dY c))/\w'=w:=by
 cases h:Lex.gx c
 ·have a:Lex.dY c=Lex.ej c:=(by simp[Lex.dY,h]);rw[a];go_enter func87,ntmps87;go_wp2_with (first |(go_at_call 85;refine(BW _ _).mono ?_;rintro e w' ⟨rfl,rfl⟩)|(go_at_call 132;refine(Dn _ _).mono ?_;rintro e w' ⟨rfl,rfl⟩));go_ret;exact⟨rfl,rfl⟩
 ·have a:Lex.dY c=ap:=(by simp[Lex.dY,h]);rw[a];go_enter func87,ntmps87;go_wp2_with (first |(go_at_call 85;refine(BW _ _).mono ?_;rintro e w' ⟨rfl,rfl⟩)|(go_at_call 132;refine(Dn _ _).mono ?_;rintro e w' ⟨rfl,rfl⟩));go_ret;exact⟨rfl,rfl⟩
theorem GI {a:Nat}(h:a=b):jS (.string (s.extract 0 a))=aE (.string (s.extract 0 b)):=by rw[h]
theorem afs (s:Bt)(w:au)(f:s.size<=100000):
 aC prog 86 #[.string s,.func (.func 169) #[] #[]] w fun e w'=>e=aE (.string (s.extract 0 (Lex.bX Lex.kT s.data.toList)))/\w'=w:=by
 go_enter func86,ntmps86;go_wp2
 go_loop [5] (fun i=>∃k:Nat,k<=s.size/\i=.int I k/\ah (Lex.bX Lex.kT s.data.toList=k+Lex.bX Lex.kT (s.data.toList.drop k))) (fun i=>s.size - (intOf i).toNat)
 case atStart=>exact⟨0,Nat.zero_le _,rfl,Lex.QS _ _⟩
 case round=>
  obtain⟨k,g,rfl,a⟩:=hrel;by_cases c:k<s.size
  ·cases hp:Lex.kT (s[k].toNat:Int)
   ·have b:=Lex.QT _ s k c hp a;clear a;go_wp2_with (go_at_call 169;refine(YE _ _).mono ?_;rintro e w' ⟨rfl,rfl⟩);go_ret;exact⟨GI b.symm,rfl⟩
   ·have d:=Lex.QP _ s k c hp a;clear a;go_wp2_with (go_at_call 169;refine(YE _ _).mono ?_;rintro e w' ⟨rfl,rfl⟩)
    go_round
    case rel=>exact⟨k+1,by omega,by go_num,d⟩
    case measure=>simp[intOf];omega
  ·have b:=Lex.QR _ s k (by omega) a;clear a;go_wp2;go_ret;exact⟨GI b.symm,rfl⟩
theorem QU (s:Bt)(w:au)(f:s.size<=100000):
 aC prog 86 #[.string s,.func (.func 87) #[] #[]] w fun e w'=>e=aE (.string (s.extract 0 (Lex.bX Lex.dY s.data.toList)))/\w'=w:=by
 go_enter func86,ntmps86;go_wp2
 go_loop [5] (fun i=>∃k:Nat,k<=s.size/\i=.int I k/\ah (Lex.bX Lex.dY s.data.toList=k+Lex.bX Lex.dY (s.data.toList.drop k))) (fun i=>s.size - (intOf i).toNat)
 case atStart=>exact⟨0,Nat.zero_le _,rfl,Lex.QS _ _⟩
 case round=>
  obtain⟨k,g,rfl,a⟩:=hrel;by_cases c:k<s.size
  ·cases hp:Lex.dY (s[k].toNat:Int)
   ·have b:=Lex.QT _ s k c hp a;clear a;go_wp2_with (go_at_call 87;refine(Ym _ _).mono ?_;rintro e w' ⟨rfl,rfl⟩);go_ret;exact⟨GI b.symm,rfl⟩
   ·have d:=Lex.QP _ s k c hp a;clear a;go_wp2_with (go_at_call 87;refine(Ym _ _).mono ?_;rintro e w' ⟨rfl,rfl⟩)
    go_round
    case rel=>exact⟨k+1,by omega,by go_num,d⟩
    case measure=>simp[intOf];omega
  ·have b:=Lex.QR _ s k (by omega) a;clear a;go_wp2;go_ret;exact⟨GI b.symm,rfl⟩
theorem afw (s:Bt)(w:au)(f:s.size<=100000):
 aC prog 86 #[.string s,.func (.func 132) #[] #[]] w fun e w'=>e=aE (.string (s.extract 0 (Lex.bX Lex.ej s.data.toList)))/\w'=w:=by
 go_enter func86,ntmps86;go_wp2
 go_loop [5] (fun i=>∃k:Nat,k<=s.size/\i=.int I k/\ah (Lex.bX Lex.ej s.data.toList=k+Lex.bX Lex.ej (s.data.toList.drop k))) (fun i=>s.size - (intOf i).toNat)
 case atStart=>exact⟨0,Nat.zero_le _,rfl,Lex.QS _ _⟩
 case round=>
  obtain⟨k,g,rfl,a⟩:=hrel;by_cases c:k<s.size
  ·cases hp:Lex.ej (s[k].toNat:Int)
   ·have b:=Lex.QT _ s k c hp a;clear a;go_wp2_with (go_at_call 132;refine(Dn _ _).mono ?_;rintro e w' ⟨rfl,rfl⟩);go_ret;exact⟨GI b.symm,rfl⟩
   ·have d:=Lex.QP _ s k c hp a;clear a;go_wp2_with (go_at_call 132;refine(Dn _ _).mono ?_;rintro e w' ⟨rfl,rfl⟩)
    go_round
    case rel=>exact⟨k+1,by omega,by go_num,d⟩
    case measure=>simp[intOf];omega
  ·have b:=Lex.QR _ s k (by omega) a;clear a;go_wp2;go_ret;exact⟨GI b.symm,rfl⟩
theorem Qq (s:Bt)(w:au):
 aC prog 88 #[.string s] w fun e w'=>e=aE (.bool (Lex.i8 s.toList))/\w'=w:=by
 go_enter func88,ntmps88;go_wp2;all_goals first
  |(exfalso;simp_all;done)
  |(go_ret;exact⟨congrArg (fun b=>jS (.bool b)) (Lex.adB (by assumption) rfl).symm,rfl⟩)
  |(go_ret;exact⟨congrArg (fun b=>jS (.bool b)) (show ak=Lex.i8 s.toList by simp only[Lex.i8,Bool.or_self, *]),rfl⟩)
theorem aeV (s:Bt)(w:au)(b:0<s.size)(f:s.size<=100000):
 aC prog 172 #[.string s] w fun e w'=>e=aE (.string ⟨(Lex.jp s.data.toList).toArray⟩)/\w'=w:=by
 by_cases d:1<s.size
 ·go_enter func172,ntmps172;go_wp2;all_goals first
   |(exfalso;have a:=‹((s.extract 0 2).toList==_)=ap›;exact Lex.Rn a (by assumption))
   |(exfalso;have a:=‹(((s[0].toNat:Nat):Int)==_)=ap›;exact Lex.Rn a (by assumption))
   |(have a:=‹((s.extract 0 2).toList==_)=ap›;go_ret;exact⟨Lex.aeS (Lex.aea a rfl),rfl⟩)
   |(have a:=‹(((s[0].toNat:Nat):Int)==_)=ap›;have hn:=(Lex.WH ‹((s.extract 0 2).toList==[38,38])=ak› ‹((s.extract 0 2).toList==[124,124])=ak› ‹((s.extract 0 2).toList==[61,61])=ak› ‹((s.extract 0 2).toList==[33,61])=ak› ‹((s.extract 0 2).toList==[60,61])=ak› ‹((s.extract 0 2).toList==[62,61])=ak›);go_ret;exact⟨Lex.sign_one b hn (Lex.XX a rfl),rfl⟩)
   |(have a:=(Lex.XY ‹(((s[0].toNat:Nat):Int)==43)=ak› ‹(((s[0].toNat:Nat):Int)==45)=ak› ‹(((s[0].toNat:Nat):Int)==42)=ak› ‹(((s[0].toNat:Nat):Int)==47)=ak› ‹(((s[0].toNat:Nat):Int)==37)=ak› ‹(((s[0].toNat:Nat):Int)==60)=ak› ‹(((s[0].toNat:Nat):Int)==62)=ak› ‹(((s[0].toNat:Nat):Int)==33)=ak› ‹(((s[0].toNat:Nat):Int)==40)=ak› ‹(((s[0].toNat:Nat):Int)==41)=ak› ‹(((s[0].toNat:Nat):Int)==123)=ak› ‹(((s[0].toNat:Nat):Int)==125)=ak› ‹(((s[0].toNat:Nat):Int)==44)=ak› ‹(((s[0].toNat:Nat):Int)==59)=ak› ‹(((s[0].toNat:Nat):Int)==58)=ak› ‹(((s[0].toNat:Nat):Int)==61)=ak›);have hn:=(Lex.WH ‹((s.extract 0 2).toList==[38,38])=ak› ‹((s.extract 0 2).toList==[124,124])=ak› ‹((s.extract 0 2).toList==[61,61])=ak› ‹((s.extract 0 2).toList==[33,61])=ak› ‹((s.extract 0 2).toList==[60,61])=ak› ‹((s.extract 0 2).toList==[62,61])=ak›);go_ret;exact⟨Lex.WZ b hn a,rfl⟩)
 ·have c:=Lex.aeb s d;go_enter func172,ntmps172;go_wp2;all_goals first
   |(exfalso;have a:=‹(((s[0].toNat:Nat):Int)==_)=ap›;exact Lex.Rn a (by assumption))
   |(have a:=‹(((s[0].toNat:Nat):Int)==_)=ap›;go_ret;exact⟨Lex.sign_one b c (Lex.XX a rfl),rfl⟩)
   |(have a:=(Lex.XY ‹(((s[0].toNat:Nat):Int)==43)=ak› ‹(((s[0].toNat:Nat):Int)==45)=ak› ‹(((s[0].toNat:Nat):Int)==42)=ak› ‹(((s[0].toNat:Nat):Int)==47)=ak› ‹(((s[0].toNat:Nat):Int)==37)=ak› ‹(((s[0].toNat:Nat):Int)==60)=ak› ‹(((s[0].toNat:Nat):Int)==62)=ak› ‹(((s[0].toNat:Nat):Int)==33)=ak› ‹(((s[0].toNat:Nat):Int)==40)=ak› ‹(((s[0].toNat:Nat):Int)==41)=ak› ‹(((s[0].toNat:Nat):Int)==123)=ak› ‹(((s[0].toNat:Nat):Int)==125)=ak› ‹(((s[0].toNat:Nat):Int)==44)=ak› ‹(((s[0].toNat:Nat):Int)==59)=ak› ‹(((s[0].toNat:Nat):Int)==58)=ak› ‹(((s[0].toNat:Nat):Int)==61)=ak›);go_ret;exact⟨Lex.WZ b c a,rfl⟩)
theorem Ly (s:Bt)(n:Nat):ah ((s.extract 0 n).data.toList=s.data.toList.take n):=by show _=_;rw[Lib.extract_data];simp
theorem TB (s:Bt)(n:Nat)(h:n<=s.size):(s.extract 0 n).size=n:=by rw[<-Lex.df,(Ly s n).out,List.length_take,Lex.df];omega
theorem TC (s:Bt)(n:Nat):(s.extract 0 n).size<=s.size:=by rw[<-Lex.df,(Ly s n).out,List.length_take,Lex.df];omega
theorem afr (s:Bt)(w:au)(a:s.size<=100000):
 aC prog 86 #[.string s,.func (.func 169) #[] #[]] w fun e w'=>∃t:Bt,e=aE (.string t)/\ah (t.data.toList=s.data.toList.take (Lex.bX Lex.kT s.data.toList))/\t.size=Lex.bX Lex.kT s.data.toList/\t.size<=s.size/\w'=w:=
 (afs s w a).mono fun _ _ ⟨b,c⟩=>⟨_,b,Ly s _,TB s _ (by rw[<-Lex.df];exact Lex.wV _ _),TC s _,c⟩
theorem afq (s:Bt)(w:au)(a:s.size<=100000):
 aC prog 86 #[.string s,.func (.func 87) #[] #[]] w fun e w'=>∃t:Bt,e=aE (.string t)/\ah (t.data.toList=s.data.toList.take (Lex.bX Lex.dY s.data.toList))/\t.size=Lex.bX Lex.dY s.data.toList/\t.size<=s.size/\w'=w:=
 (QU s w a).mono fun _ _ ⟨b,c⟩=>⟨_,b,Ly s _,TB s _ (by rw[<-Lex.df];exact Lex.wV _ _),TC s _,c⟩
theorem afv (s:Bt)(w:au)(a:s.size<=100000):
 aC prog 86 #[.string s,.func (.func 132) #[] #[]] w fun e w'=>∃t:Bt,e=aE (.string t)/\ah (t.data.toList=s.data.toList.take (Lex.bX Lex.ej s.data.toList))/\t.size=Lex.bX Lex.ej s.data.toList/\t.size<=s.size/\w'=w:=
 (afw s w a).mono fun _ _ ⟨b,c⟩=>⟨_,b,Ly s _,TB s _ (by rw[<-Lex.df];exact Lex.wV _ _),TC s _,c⟩
theorem ajA (s:Bt)(w:au)(b:s.size<=100000):
 aC prog 170 #[.string s] w fun e w'=>e=Lex.FW (Lex.sM s.data.toList)/\w'=w:=by
 by_cases h:12<s.size
 ·have a:=am (Lex.YL h);go_enter func170,ntmps170;go_wp2
  go_ret3
  exact⟨Lex.MT a.out,rfl⟩
 ·cases hw:Lex.i8 s.toList
  ·have a:=am (Lex.YK h hw);go_enter func170,ntmps170;go_wp2_with (go_at_call 88;refine(Qq _ _).mono ?_;rintro e w' ⟨rfl,rfl⟩)
   go_ret3
   exact⟨Lex.MS a.out,rfl⟩
  ·have a:=am (Lex.YJ h hw);go_enter func170,ntmps170;go_wp2_with (go_at_call 88;refine(Qq _ _).mono ?_;rintro e w' ⟨rfl,rfl⟩)
   go_ret3
   exact⟨Lex.MS a.out,rfl⟩
theorem anX (s:Bt)(w:au)(d:0<s.size)(f:s.size<=100000):
 aC prog 171 #[.string s] w fun e w'=>e=Lex.FW (Lex.pM s.data.toList)/\w'=w:=by
 by_cases c:9<s.size
 ·have a:=am (Lex.anU c);have g:(9:Int)<(s.size:Int):=(by omega);go_enter func171,ntmps171;go_wp2
  go_ret3
  exact⟨Lex.MT a.out,rfl⟩
 ·have d9:decide ((9:Int)<(s.size:Int))=ak:=(by simp;omega);by_cases b:1<s.size
  ·have h:(1:Int)<(s.size:Int):=(by omega);cases hc:(((s[0].toNat:Nat):Int)==48)
   ·have a:=am (Lex.anR c b hc);go_enter func171,ntmps171;go_wp2
    go_ret3
    exact⟨Lex.MS a.out,rfl⟩
   ·have a:=am (Lex.anT b hc);go_enter func171,ntmps171;go_wp2
    go_ret3
    exact⟨Lex.MT a.out,rfl⟩
  ·have a:=am (Lex.anS b);have d1:decide ((1:Int)<(s.size:Int))=ak:=(by simp;omega);go_enter func171,ntmps171;go_wp2
   go_ret3
   exact⟨Lex.MS a.out,rfl⟩
theorem WK {r:Int×Lu×Int}{e:Ending}(h:e=Lex.FW r/\w'=w):
 ∃(k:Int) (t:Bt) (c:Int),e=aE (.tuple #[.int I k,.string t,.int I c])/\ah (r=(k,t.data.toList,c))/\w'=w:=
 ⟨r.1,⟨r.2.1.toArray⟩,r.2.2,h.1,show _=_ by simp,h.2⟩
theorem Qx {r:Int×Lu×Int}(h:r=(k,t.data.toList,c)):jS (.tuple #[.int I k,.string t,.int I c])=Lex.FW r:=by rw[h];rfl
theorem WY (s:Bt)(w:au)(a:0<s.size)(b:s.size<=100000):
 aC prog 172 #[.string s] w fun e w'=>∃t:Bt,e=aE (.string t)/\ah (t.data.toList=Lex.jp s.data.toList)/\t.toList.isEmpty=(Lex.jp s.data.toList).isEmpty/\w'=w:=
 (aeV s w a b).mono fun _ _ ⟨c,d⟩=>⟨_,c,show _=_ by simp,by simp,d⟩
theorem amY (s:Bt)(w:au)(f:0<s.size)(g:s.size<=100000):
 aC prog 122 #[.string s] w fun e w'=>e=Lex.FW (Lex.iF s.data.toList)/\w'=w:=by
 have a:=Lex.LF s f;cases ha:Lex.gx ((s[0].toNat:Nat):Int)
 ·cases hd:Lex.ej ((s[0].toNat:Nat):Int)
  ·cases he:(Lex.jp s.data.toList).isEmpty
   ·have b:=am (Lex.Ln (by rw[a];exact ha) (by rw[a];exact hd) (by simpa using he));clear a;go_enter func122,ntmps122;go_wp2_with (first |(go_at_call 85;refine(BW _ _).mono ?_;rintro e w' ⟨rfl,rfl⟩)|(go_at_call 132;refine(Dn _ _).mono ?_;rintro e w' ⟨rfl,rfl⟩)|(go_at_call 172;refine(WY _ _ f g).mono ?_;rintro e w' ⟨t,rfl,d,h,rfl⟩))
    go_ret3
    exact⟨Qx (by rw[b.out,d.out]),rfl⟩
   ·have b:=am (Lex.Tn (by rw[a];exact ha) (by rw[a];exact hd) (by simpa using he));clear a;go_enter func122,ntmps122;go_wp2_with (first |(go_at_call 85;refine(BW _ _).mono ?_;rintro e w' ⟨rfl,rfl⟩)|(go_at_call 132;refine(Dn _ _).mono ?_;rintro e w' ⟨rfl,rfl⟩)|(go_at_call 172;refine(WY _ _ f g).mono ?_;rintro e w' ⟨t,rfl,d,h,rfl⟩))
    go_ret3
    exact⟨Lex.MT b.out,rfl⟩
  ·have b:=am (Lex.OZ (by rw[a];exact ha) (by rw[a];exact hd));have m:=Lex.afp Lex.ej s f hd;clear a;go_enter func122,ntmps122;go_wp2_with (first |(go_at_call 85;refine(BW _ _).mono ?_;rintro e w' ⟨rfl,rfl⟩)|(go_at_call 132;refine(Dn _ _).mono ?_;rintro e w' ⟨rfl,rfl⟩)|(go_at_call 86;refine(afv _ _ g).mono ?_;rintro e w' ⟨t,rfl,d,h,l,rfl⟩)|(go_at_call 171;refine Calls.mono (anX _ _ (by omega) (by omega)) ?_;intro e w' i;obtain⟨k,t2,c,rfl,j,rfl⟩:=WK i))
   go_ret3
   exact⟨Qx (by rw[b.out,<-d.out];exact j.out),rfl⟩
 ·have b:=am (Lex.O0 (by rw[a];exact ha));clear a;go_enter func122,ntmps122;go_wp2_with (first |(go_at_call 85;refine(BW _ _).mono ?_;rintro e w' ⟨rfl,rfl⟩)|(go_at_call 132;refine(Dn _ _).mono ?_;rintro e w' ⟨rfl,rfl⟩)|(go_at_call 86;refine(afq _ _ g).mono ?_;rintro e w' ⟨t,rfl,d,h,l,rfl⟩)|(go_at_call 170;refine Calls.mono (ajA _ _ (by omega)) ?_;intro e w' i;obtain⟨k,t2,c,rfl,j,rfl⟩:=WK i))
  go_ret3
  exact⟨Qx (by rw[b.out,<-d.out];exact j.out),rfl⟩
theorem amv (s:Bt):ah (Lex.dJ ak s.data.toList=0+Lex.dJ ak (s.data.toList.drop 0)):=by show _=_;simp
theorem amy (s:Bt)(k:Nat)(h:k<s.size)(a:Lex.mi ((s[k].toNat:Nat):Int)=ap)(b:ah (Lex.dJ ak s.data.toList=k+Lex.dJ ak (s.data.toList.drop k))):
 ah (Lex.dJ ak s.data.toList=(k+1)+Lex.dJ ak (s.data.toList.drop (k+1))):=by
 have:=Lex.aaX s.data.toList k (by simpa using h) a;have:=b.out;show _=_;omega
theorem amw (s:Bt)(k:Nat)(h:k<s.size)(c:Lex.mi ((s[k].toNat:Nat):Int)=ak)(a:(((s[k].toNat:Nat):Int)==35)=ap)(n:Nat)(hn:n=Lex.bX Lex.kT (s.extract k s.size).data.toList)(d:ah (Lex.dJ ak s.data.toList=k+Lex.dJ ak (s.data.toList.drop k))):
 0<n/\k+n<=s.size/\ah (Lex.dJ ak s.data.toList=(k+n)+Lex.dJ ak (s.data.toList.drop (k+n))):=by
 have b:k<s.data.toList.length:=(by simpa using h);have g:=Lex.aaW s.data.toList k b c a;have i:=d.out;rw[Lex.yh] at hn;subst hn;have f:=Lex.wV Lex.kT (s.data.toList.drop k);rw[List.length_drop,Lex.df] at f;refine⟨?_,by omega,show _=_ by omega⟩;rw[List.drop_eq_getElem_cons b];have e:Lex.kT ((s.data.toList[k].toNat:Nat):Int)=ap:=(by rw[show((s.data.toList[k].toNat:Nat):Int)=35 from eq_of_beq a];rfl);show 0<if Lex.kT ((s.data.toList[k].toNat:Nat):Int)=ap then _ else 0;rw[if_pos e];omega
theorem amu (s:Bt)(k:Nat)(h:k<s.size)(a:Lex.mi ((s[k].toNat:Nat):Int)=ak)(b:(((s[k].toNat:Nat):Int)==35)=ak)(c:ah (Lex.dJ ak s.data.toList=k+Lex.dJ ak (s.data.toList.drop k))):ah (Lex.dJ ak s.data.toList=k):=by
 have:=Lex.aaV s.data.toList k (by simpa using h) a b;have:=c.out;show _=_;omega
theorem amx (s:Bt)(k:Nat)(h:s.size<=k)(a:ah (Lex.dJ ak s.data.toList=k+Lex.dJ ak (s.data.toList.drop k))):ah (Lex.dJ ak s.data.toList=k):=by
 have:=Lex.Ti s.data.toList k (by simpa using h);have:=a.out;show _=_;omega
theorem Xh {a:Nat}(h:a=b):jS (.int I (a:Int))=aE (.int I (b:Int)):=by rw[h]
theorem amt (s:Bt)(w:au)(l:s.size<=100000):
 aC prog 121 #[.string s] w fun e w'=>e=aE (.int I (Lex.dJ ak s.data.toList:Nat))/\w'=w:=by
 go_enter func121,ntmps121;go_wp2
 go_loop [3] (fun i=>∃k:Nat,k<=s.size/\i=.int I k/\ah (Lex.dJ ak s.data.toList=k+Lex.dJ ak (s.data.toList.drop k))) (fun i=>s.size - (intOf i).toNat)
 case atStart=>exact⟨0,Nat.zero_le _,rfl,amv s⟩
 case round=>
  obtain⟨k,m,rfl,a⟩:=hrel;by_cases b:k<s.size
  ·cases hb:Lex.mi ((s[k].toNat:Nat):Int)
   ·cases hc:(((s[k].toNat:Nat):Int)==35)
    ·have c:=amu s k b hb hc a;clear a;go_wp2_with (go_at_call 168;refine(TO _ _).mono ?_;rintro e w' ⟨rfl,rfl⟩);go_ret;exact⟨Xh c.symm,rfl⟩
    ·have f:(s.extract k s.size).size<=100000:=(by rw[<-Lex.df,Lex.yh,List.length_drop,Lex.df];omega);obtain⟨n,hn⟩:∃n,n=Lex.bX Lex.kT (s.extract k s.size).data.toList:=⟨_,rfl⟩;obtain⟨o,p,d⟩:=amw s k b hb hc n hn a;have g:ah (n=Lex.bX Lex.kT (s.extract k s.size).data.toList):=hn;clear a hn;go_wp2_with (first |(go_at_call 168;refine(TO _ _).mono ?_;rintro e w' ⟨rfl,rfl⟩)|(go_at_call 86;refine(afr _ _ f).mono ?_;rintro e w' ⟨t,rfl,_,h,j,rfl⟩;rw[<-g.out] at h;clear j))
     go_round
     case rel=>exact⟨k+n,by omega,by go_num,d⟩
     case measure=>simp[intOf];omega
   ·have d:=amy s k b hb a;clear a;go_wp2_with (go_at_call 168;refine(TO _ _).mono ?_;rintro e w' ⟨rfl,rfl⟩)
    go_round
    case rel=>exact⟨k+1,by omega,by go_num,d⟩
    case measure=>simp[intOf];omega
  ·have c:=amx s k (by omega) a;clear a;go_wp2;go_ret;exact⟨Xh c.symm,rfl⟩
theorem ams (s:Bt)(p g:Nat)(w:au)(b:s.size<=4000)(a:ah (Lex.dJ ak (s.data.toList.drop p)=g)):
 aC prog 121 #[.string (s.extract p s.size)] w fun e w'=>e=aE (.int I (g:Int))/\w'=w:=by
 have h:=amt (s.extract p s.size) w (by rw[<-Lex.df,Lex.yh,List.length_drop,Lex.df];omega);rw[Lex.yh,a.out] at h;exact h
structure Pz (w wc:au)(ba q:Nat):Prop where
 grown:w.grownBy wc (Z ba)
 Dp:wc.heap[ba]? =Z (M #[.int I (q:Int)] 3)
 res:wc.heap[w.heap.size]? =Z (M #[.int I 0,.int I 0,.string ⟨#[]⟩] 81)
theorem adx (n m:Nat)(h:n+m<=100000):IntKind.i64.wrap ((n:Int)+(m:Int))=((n+m:Nat):Int):=by rw[IntKind.wrap_i64];omega
theorem aiA {ba:Nat}(a:w.heap[ba]? =Z (M #[.int I (p:Int)] 3))(b:p+g<=4000):
 Pz w ((w.setCell (Y ba 0 U) (.int I (IntKind.i64.wrap ((p:Int)+(g:Int))))).alloc (M #[.int I 0,.int I 0,.string ⟨#[]⟩] 81)).drew ba (p+g):=by
 rw[adx p g (by omega)];refine⟨Te (BP (eR (jh _ _) rfl _) _),cR (one_setCell a),cu _ _ _ (by simp[bw])⟩
theorem ended {ba q:Nat}(h:Pz w wc ba q)(e:ba<w.heap.size)(b c d:aw)(o:Obj):
 w.grownBy ((((wc.setCell (Y w.heap.size 0 U) b).setCell (Y w.heap.size 1 U) c).setCell (Y w.heap.size 2 U) d).alloc o) (Z ba)/\
 ((((wc.setCell (Y w.heap.size 0 U) b).setCell (Y w.heap.size 1 U) c).setCell (Y w.heap.size 2 U) d).alloc o).heap[ba]? =Z (M #[.int I (q:Int)] 3):=
 have a:ba≠w.heap.size:=by omega
 ⟨BP (za (za (za h.grown (aD _) _) (aD _) _) (aD _) _) _,cR (nz (nz (nz h.Dp a) a) a)⟩
structure adt (w wc w1:au)(ba:Nat)(q N:Int):Prop where
 grown:w.grownBy w1 (Z ba)
 Dp:w1.heap[ba]? =Z (M #[.int I N] 3)
 res:w1.heap[w.heap.size]? =Z (M #[.int I 0,.int I 0,.string ⟨#[]⟩] 81)
 tok:w1.heap[wc.heap.size]? =Z (M #[.int I 0,.int I q,.string ⟨#[]⟩] 81)
 lt:w.heap.size<wc.heap.size
theorem aov {ba d:Nat}{q N:Int}(h:Pz w wc ba d)(i:ba<w.heap.size)
 (c:Below ((wc.setCell (Y ba 0 U) (.int I N)).alloc (M #[.int I 0,.int I q,.string ⟨#[]⟩] 81)).heap.size ((wc.setCell (Y ba 0 U) (.int I N)).alloc (M #[.int I 0,.int I q,.string ⟨#[]⟩] 81)) w1):adt w wc w1 ba q N:=by
 have e:((wc.setCell (Y ba 0 U) (.int I N)).alloc (M #[.int I 0,.int I q,.string ⟨#[]⟩] 81)).heap.size=wc.heap.size+1:=(by simp[bw]);have f:=J h.res;have j:=J h.Dp;have a:∀b,b<wc.heap.size+1->w1.heap[b]? =((wc.setCell (Y ba 0 U) (.int I N)).alloc (M #[.int I 0,.int I q,.string ⟨#[]⟩] 81)).heap[b]? :=fun b g=>c.block b (by rw[e];exact g);refine⟨mH (BP (eR h.grown rfl _) _) c,(a ba (by omega)).trans (cR (one_setCell h.Dp)),(a w.heap.size (by omega)).trans (cR (nz h.res (by show w.heap.size≠ba;omega))),(a wc.heap.size (by omega)).trans (cu _ _ _ (by simp[bw])),f⟩
theorem anE {ba:Nat}{q N:Int}(h:adt w wc w1 ba q N)(g:ba<w.heap.size)(a0 a2 b c d:aw):
 w.grownBy (((((w1.setCell (Y wc.heap.size 0 U) a0).setCell (Y wc.heap.size 2 U) a2).setCell (Y w.heap.size 0 U) b).setCell (Y w.heap.size 1 U) c).setCell (Y w.heap.size 2 U) d) (Z ba)/\
 (((((w1.setCell (Y wc.heap.size 0 U) a0).setCell (Y wc.heap.size 2 U) a2).setCell (Y w.heap.size 0 U) b).setCell (Y w.heap.size 1 U) c).setCell (Y w.heap.size 2 U) d).heap[ba]? =Z (M #[.int I N] 3):=
 have a:ba≠w.heap.size:=(by omega);have e:ba≠wc.heap.size:=(by have:=h.lt;omega);have f:=Nat.le_of_lt h.lt
 ⟨za (za (za (za (za h.grown f _) f _) (aD _) _) (aD _) _) (aD _) _,nz (nz (nz (nz (nz h.Dp e) e) a) a) a⟩
theorem abc (s:Bt)(q:Nat)(k c:Int)(t:Bt)(w:au)(a:s.size<=4000)(b:q<s.size)(hf:ah (Lex.iF (s.data.toList.drop q)=(k,t.data.toList,c))):
 aC prog 122 #[.string (s.extract q s.size)] w fun e w'=>e=aE (.tuple #[.int I k,.string t,.int I c])/\w'=w:=by
 have d:(s.extract q s.size).size=s.size - q:=(by rw[<-Lex.df,Lex.yh,List.length_drop,Lex.df]);have h:=amY (s.extract q s.size) w (by omega) (by omega);rw[Lex.yh,hf.out] at h;exact h
theorem aow (s:Bt)(w:au)(b:s.size<=4000):
 aC prog 123 #[.string s] w fun e w'=>e=aE (.string s)/\Bl w w':=by
 go_enter func123,ntmps123;go_wp2_with (go_at_call 173;refine(stringslite_Clone _ _ (by omega)).mono ?_;rintro e w' ⟨rfl,a⟩);go_ret;exact⟨rfl,a⟩
theorem aic (s:Bt)(p ba j:Nat)(w:au)(u:s.size<=4000)(Q:p<=s.size)
 (f:w.heap[ba]? =Z (M #[.int I (p:Int)] 3)) (hS:w.heap[j]? =Z (M #[.string s] 9)):
 aC prog 120 #[aB (Z (Y ba 0 U)),aB (Z (Y j 0 U))] w fun e w'=>∃(k:Int) (q:Nat) (t:Bt) (c:Int) (n:Nat),e=aE (.tuple #[.agg #[.int I k,.int I (q:Int),.string t],.int I c])/\ah (Lex.mu s.data.toList p=(k,q,t.data.toList,c,n))/\w.grownBy w' (Z ba)/\w'.heap[ba]? =Z (M #[.int I (n:Int)] 3)/\q<=s.size/\n<=s.size/\(k≠0->p<n):=by
 have R:=cell_of_one f;have S:=cell_of_one hS;have T:=free_of_one f;have l:=J f;have V:=J hS;have bh:ba≠j:=(by rintro rfl;rw[f] at hS;simp at hS);obtain⟨g,x⟩:∃g,Lex.dJ ak (s.data.toList.drop p)=g:=⟨_,rfl⟩;have d:=Lex.Th s.data.toList p (by rw[Lex.df];exact Q);rw[Lex.df,x] at d;have K:=am x;have W:=am f;have X:=am hS;clear x f hS;go_enter func120,ntmps120;go_wp2
 go_cut [] (fun wc=>Pz w wc ba (p+g))
 case first=>
  go_region_with (go_at_call 121;refine(ams s p g _ u K).mono ?_;rintro e w' ⟨rfl,rfl⟩)
  all_goals (try go_wp2_with fail)
  all_goals go_meet
  all_goals exact aiA W (by omega)
 case rest=>
  obtain⟨q,y⟩:=nm (p+g);rw[<-y] at hcut d;have z:ah (p+Lex.dJ ak (s.data.toList.drop p)=q):=(by show _=_;rw[K.out];exact y.symm);have af:p<=q:=(by omega);clear y;have Pk:=cell_of_one hcut.Dp;have ad:=free_of_one hcut.Dp;have ai:=J hcut.Dp;have L:=J hcut.res;have B:=(hcut.grown.block j V (by simp;omega)).trans X;have ae:=cell_of_one B;have ao:=J B;have C:=cl hcut.res 0 rfl;have E:=cl hcut.res 1 rfl;have F:=cl hcut.res 2 rfl;have z0:=fz hcut.res 0;have z1:=fz hcut.res 1;have z2:=fz hcut.res 2;have G:=am hcut;clear hcut B R S T;by_cases m:q=s.size
  ·have hb:((q:Int)==(s.size:Int))=ap:=(by simp[m]);have HE:=am m;clear m;go_wp2;have b:=ended G l (.int I 0) (.int I (q:Int)) (.string ⟨#[]⟩) (M #[.int I 0,.int I (q:Int),.string ⟨#[]⟩] 81);exact bodyPost_ret (v:=.tuple #[.agg #[.int I 0,.int I (q:Int),.string ⟨#[]⟩],.int I 0]) (by simp[results,results120,go_sem,L,C,E,F]) rfl ⟨0,q,⟨#[]⟩,0,q,rfl,Lex.step_end z (by rw[Lex.df];exact HE.out),b.1,b.2,d,d,fun h=>absurd rfl h⟩
  ·have hb:((q:Int)==(s.size:Int))=ak:=(by simp;omega);have N:q<s.size:=(by omega);obtain⟨k,t,c,hf⟩:∃(k:Int) (t:Bt) (c:Int),Lex.iF (s.data.toList.drop q)=(k,t.data.toList,c):=⟨(Lex.iF (s.data.toList.drop q)).1,⟨(Lex.iF (s.data.toList.drop q)).2.1.toArray⟩,(Lex.iF (s.data.toList.drop q)).2.2,by simp⟩;have i:=am hf;clear hf m;by_cases o:c=0
   ·subst o;have r:=Lex.OY i (by intro h;have:=congrArg List.length h;rw[List.length_drop,Lex.df] at this;simp at this;omega);have vB:t.size<=s.size - q:=(by have:=r.2.2.2;rwa [List.length_drop,Lex.df,Lex.df] at this);have CT:0<t.size:=(by have:=r.2.1;rwa [Lex.df] at this);have HK:=am r.1;clear r;go_wp2_with (go_at_call 122;refine(abc s q k 0 t _ u N i).mono ?_;rintro e w' ⟨rfl,rfl⟩);refine(aow t _ (by omega)).mono ?_;rintro e w1 ⟨rfl,P⟩;have a:=am (aov G l P);have lT:=J a.tok;have t0:=cl a.tok 0 rfl;have t1:=cl a.tok 1 rfl;have t2:=cl a.tok 2 rfl;have y0:=fz a.tok 0;have y2:=fz a.tok 2;have s0:=cl a.res 0 rfl;have s1:=cl a.res 1 rfl;have s2:=cl a.res 2 rfl;have x0:=fz a.res 0;have x1:=fz a.res 1;have x2:=fz a.res 2;have ar:wc.heap.size≠w.heap.size:=(by omega);clear P C E F z0 z1 z2 Pk ae ad;go_wp2;have b:=anE a l (.int I k) (.string t) (.int I k) (.int I (q:Int)) (.string t);exact bodyPost_ret (v:=.tuple #[.agg #[.int I k,.int I (q:Int),.string t],.int I 0]) (by simp[results,results120,go_sem,s0,s1,s2]) rfl ⟨k,q,t,0,q+t.size,rfl,(Lex.MY z (by rw[Lex.df];omega) i).trans (by rw[Lex.df]),b.1,by rw[b.2];simp,d,by omega,fun _=>by omega⟩
   ·have hn:(c !=0)=ap:=(by simp[o]);have HN:=am o;clear o;go_wp2_with (go_at_call 122;refine(abc s q k c t _ u N i).mono ?_;rintro e w' ⟨rfl,rfl⟩);have b:=ended G l (.int I 0) (.int I (q:Int)) (.string ⟨#[]⟩) (M #[.int I 0,.int I (q:Int),.string ⟨#[]⟩] 81);exact bodyPost_ret (v:=.tuple #[.agg #[.int I 0,.int I (q:Int),.string ⟨#[]⟩],.int I c]) (by simp[results,results120,go_sem,L,C,E,F]) rfl ⟨0,q,⟨#[]⟩,c,q,rfl,Lex.Es z (by rw[Lex.df];omega) i HN,b.1,b.2,d,d,fun h=>absurd rfl h⟩
theorem Tryz.RQ:(prog.info? 81).map (fun i=>(i.zero,i.size,i.bytes))=Z (Z (.agg #[.int I 0,.int I 0,.string ⟨#[]⟩]),3,32):=by kernel_rfl
theorem afJ (s:Bt)(w:au):
 aC prog 70 #[.string s] w fun e w'=>e=aE (.func (.func 120) #[] #[aB (Z (Y (w.heap.size+1) 0 U)),aB (Z (Y w.heap.size 0 U))])/\w'=(w.alloc (M #[.string s] 9)).alloc (M #[.int I 0] 3):=by
 go_enter func70,ntmps70;go_wp2;go_ret;exact⟨rfl,rfl⟩
structure Loop (s:Bt)(w wr:au)(v:aw)(p f:Nat)(acc:List Lex.Tok):Prop where
 own:wr.ownsRow (w.heap.size+3) 81 3 v acc.length (Lex.cellsOf acc)
 res:wr.heap[w.heap.size]? =Z (M #[.int I 0,.int I 0] 30)
 str:wr.heap[w.heap.size+1]? =Z (M #[.string s] 9)
 qP:wr.heap[w.heap.size+2]? =Z (M #[.int I (p:Int)] 3)
 ff:Bl w wr
 kO:w.heap.size+3<=wr.heap.size
 len:acc.length<=600
 mw:p<=s.size
 all:Lex.jK s.data.toList=Lex.lZ s.data.toList f p acc
 fuel:s.size<p+f
theorem aiR (s:Bt)(w:au)(a:Lex.jK s.data.toList=Lex.lZ s.data.toList (s.size+1) 0 []):
 Loop s w (((w.alloc (M #[.int I 0,.int I 0] 30)).alloc (M #[.string s] 9)).alloc (M #[.int I 0] 3)) (O U 0 0) 0 (s.size+1) []:=
 ⟨World.ownsRow_nil _ _ _ _,cR (cR (cu _ _ _ rfl)),cR (cu _ _ _ (by simp)),cu _ _ _ (by simp),(((aF _ _).alloc (aD _) _).alloc (by simp) _).alloc (by simp;omega) _,by simp,by simp,by simp,a,by omega⟩
theorem Jr {size:Nat}(h:w.ownsRow base e size v n xs):∃a K,v=O a n K:=by
 rcases h.2 with⟨rfl,rfl⟩|⟨g,K,C,rfl,_⟩
 ·exact⟨U,0,rfl⟩
 ·exact⟨_,K,rfl⟩
theorem Rg {size:Nat}(h:w.ownsRow base e size v n xs)(d:B<=base):w.ownsRow B e size v n xs:=by
 obtain⟨b,a⟩:=h;rcases a with a |⟨g,K,C,c,f,r⟩
 ·exact⟨b,.inl a⟩
 ·exact⟨b,.inr ⟨g,K,C,c,by omega,r⟩⟩
theorem XS {acc:List Lex.Tok}(h:Loop s w wr v p f acc)(a:wr.grownBy w1 (Z (w.heap.size+2))):w1.ownsRow (w.heap.size+3) 81 3 v acc.length (Lex.cellsOf acc):=by
 refine h.own.kept a ?_;right;intro b;have:=(h.own.lt _ b).1;omega
theorem Pm {acc:List Lex.Tok}(h:Loop s w wr v p f acc)(a:wr.grownBy w1 (Z (w.heap.size+2))):Bl w w1:=
 h.ff.grown a (by have:=h.kO;omega) (by intro k b;simp at b;omega)
theorem aep (w:au)(o:Obj)(a b c:aw)(e:TypeId):∀j u,[a,b,c][j]? =Z u->((w.alloc o).alloc (M #[a,b,c] e)).cell? (((Y (w.heap.size+1) 0 U):Addr).add j)=Z u:=by
 intro j u d;have f:((w.alloc o).alloc (M #[a,b,c] e)).cell? (Y (w.heap.size+1) j U)=(#[a,b,c]:Av)[j]? :=World.cell?_alloc_at _ _ _ _ (by simp);have g:((Y (w.heap.size+1) 0 U):Addr).add j=(Y (w.heap.size+1) j U):=(by simp[Addr.add];intro h;exact h.symm);rw[g,f];simpa using d
theorem aiT {a:au}{g:aw}{i j:Obj}{q:Nat}{acc:List Lex.Tok}(h:Loop s w wr v p (f+1) acc)(c:wr.grownBy w1 (Z (w.heap.size+2)))
 (m:w1.heap[w.heap.size+2]? =Z (M #[.int I (n:Int)] 3)) (hn:n<=s.size) (o:k≠0) (z:p<n) (r:Lex.mu s.data.toList p=(k,q,t.data.toList,0,n)) (hf:¬acc.length=600)
 (u:a.ownsRow (w.heap.size+3) 81 3 g (acc.length+1) (Lex.cellsOf acc++[.int I k,.int I (q:Int),.string t])) (d:((w1.alloc i).alloc j).grownBy a v.ownBlock):
 Loop s w a g n f (acc++[(k,q,t.data.toList)]):=by
 have B:=h.kO;have C:((w1.alloc i).alloc j).heap.size=w1.heap.size+2:=(by simp);have E:=c.size;have F:=d.size;have low:∀b x,b<w.heap.size+3->w1.heap[b]? =Z x->a.heap[b]? =Z x:=fun b x y hx=>by
  rw[d.block b (by omega) ?_]
  ·exact cR (cR hx)
  ·intro e;have:=(h.own.lt _ e.symm).1;omega
 have l:∀b x,b<w.heap.size+2->wr.heap[b]? =Z x->a.heap[b]? =Z x:=fun b x y hx=>low b x (by omega) ((c.block b (J hx) (by simp;omega)).trans hx);refine⟨?_,l _ _ (by omega) h.res,l _ _ (by omega) h.str,low _ _ (by omega) m,?_,by omega,by have:=h.len;simp;omega,hn,h.all.trans (Lex.M1 r o hf),by have:=h.fuel;omega⟩
 ·rw[Lex.abR];simpa using u
 ·exact(((Pm h c).alloc (by omega) _).alloc (by simp;omega) _).grown d (by omega) (fun k e=>by have:=(h.own.lt _ e).1;omega)
theorem Xb (s:Bt)(w:au)(W:s.size<=maxLen):
 aC prog 28 #[.string s] w fun e w'=>∃(v:aw) (l:List Lex.Tok) (c:Int) (q:Nat),e=aE (.tuple #[v,.agg #[.int I c,.int I (q:Int)]])/\Lex.jK s.data.toList=(l,c,q)/\w'.ownsRow w.heap.size 81 3 v l.length (Lex.cellsOf l)/\Bl w w':=by
 unfold maxLen at W;by_cases F:4000<s.size
 ·have X:=am (Lex.QL (by rw[Lex.df];exact F));go_enter func28,ntmps28;go_wp2;exact bodyPost_ret (v:=.tuple #[O U 0 0,.agg #[.int I 2,.int I 0]]) (by simp[results,results28,go_sem]) rfl ⟨_,[],2,0,rfl,X.out,World.ownsRow_nil _ _ _ _,(aF _ _).alloc (aD _) _⟩
 ·have b:ah (Lex.jK s.data.toList=Lex.lZ s.data.toList (s.size+1) 0 []):=(by have:=Lex.QM (l:=s.data.toList) (by rw[Lex.df];exact F);rwa [Lex.df] at this);have hs:s.size<=4000:=(by omega);go_enter func28,ntmps28;go_wp2_with (go_at_call 70;refine(afJ _ _).mono ?_;rintro e w' ⟨rfl,rfl⟩);go_loopw [4] (fun v wr=>∃p f d,Loop s w wr v p f d) (fun _ wr=>s.size - Lex.placeOf wr (w.heap.size+2));case atStart=>exact⟨0,s.size+1,[],aiR s w b⟩
  case round=>
   obtain⟨p,f0,d,i⟩:=hrel;obtain⟨f,rfl⟩:∃f,f0=f+1:=⟨f0 - 1,by have:=i.fuel;have:=i.mw;omega⟩;obtain⟨i0,hi,cL,bZ,bA⟩:=info_parts Tryz.RQ;have a:=am i;obtain⟨ao,K,hv⟩:=Jr i.own;subst hv;clear i;go_wp2_with fail;refine(aic s p (w.heap.size+1+1) (w.heap.size+1) wr hs a.mw a.qP a.str).mono ?_;rintro e w1 ⟨k,q,t,c,n,rfl,m,x,G,hq,hn,L⟩;have g:=(x.block _ (J a.res) (by simp;omega)).trans a.res;have y:=J g;have z:=cl g 0 rfl;have B:=cl g 1 rfl;have z0:=fz g 0;have z1:=fz g 1;have h:=am x;have B6:=am G;have jk:=am g;have N:=am L;clear x G g L;by_cases j:c=0
   ·subst j;by_cases o:k=0
    ·subst o;have P:=XS a h;have Q:=Pm a h;have C:=am P;have b:=am Q;clear P Q;go_wp2;exact bodyPost_ret (v:=.tuple #[O ao d.length K,.agg #[.int I 0,.int I 0]]) (by simp[results,results28,go_sem,z,B,y]) rfl ⟨_,d,0,0,rfl,a.all.trans (Lex.Jt m),Rg (World.ownsRow.alloc (ownsRow_setCell_below (ownsRow_setCell_below C (by show w.heap.size<_;omega) _) (by show w.heap.size<_;omega) _) _) (by omega),((b.setCell (aD _) _).setCell (aD _) _).alloc (by simp[bw];omega) _⟩
    ·have bk:(k==0)=ak:=(by simp[o]);have r:=am o;clear o;by_cases hf:d.length=600
     ·have bf:((d.length:Int)==600)=ap:=(by simp[hf]);have E:=am hf;clear hf;have b:=am (Pm a h);go_wp2;go_region;all_goals (try go_wp2)
      all_goals exact bodyPost_ret (v:=.tuple #[O U 0 0,.agg #[.int I 2,.int I (q:Int)]]) (by simp[results,results28,go_sem,z,B,y]) rfl ⟨_,[],2,q,rfl,a.all.trans (Lex.M2 m r E),World.ownsRow_nil _ _ _ _,(((b.setCell (aD _) _).setCell (aD _) _).alloc (by simp[bw];omega) _).drew⟩
     ·have bf:((d.length:Int)==600)=ak:=(by simp;omega);have C:=am (XS a h);have ad:=a.len;have xr:=fC a.kO h.size;have E:=am hf;clear hf;go_wp2_with (at_builtin;refine wpList_append_own _ rfl _ _ 72 rfl (w.heap.size+3) 81 i0 (.agg #[.int I 0,.int I 0,.string ⟨#[]⟩]) 3 32 underlying72 hi cL bZ bA rfl (by decide) _ _ _ rfl (World.ownsRow.alloc (World.ownsRow.alloc C.out _) _) (Y (w1.heap.size+1) 0 U) 1 1 [.int I k,.int I (q:Int),.string t] rfl rfl ?c1 ?c2 ?c3 ?c4 ?c5 ?_);case c1=>exact aep _ _ _ _ _ _
      case c2=>intro u R;simp at R;rcases R with rfl | rfl | rfl<;>rfl
      case c3=>unfold maxLen;omega
      case c4=>omega
      case c5=>simp;omega
      ·intro v' w2 S T _;have V:=am (aiT a h B6 hn r (N.out r) m E S T);have HM:ah (s.size - Lex.placeOf w2 (w.heap.size+2)<s.size - Lex.placeOf wr (w.heap.size+2)):=by
        have:=N.out r.out;have:=a.mw;show _<_;rw[Lex.CG V.qP,Lex.CG a.qP];omega
       clear S T;go_wp2;go_roundw;case rel=>exact⟨n,f,_,V.out⟩
       case measure=>exact HM.out
   ·have bc:(c==0)=ak:=(by simp[j]);have bn:(c !=0)=ap:=(by simp[j]);have HC:=am j;clear j;have b:=am (Pm a h);go_wp2;go_region;all_goals (try go_wp2)
    all_goals exact bodyPost_ret (v:=.tuple #[O U 0 0,.agg #[.int I c,.int I (q:Int)]]) (by simp[results,results28,go_sem,z,B,y]) rfl ⟨_,[],c,q,rfl,a.all.trans (Lex.Ex m HC),World.ownsRow_nil _ _ _ _,(((b.setCell (aD _) _).setCell (aD _) _).alloc (by simp[bw];omega) _).drew⟩
end Go.Proofs.YtoiiahpdbcokaaaGreatDoor
