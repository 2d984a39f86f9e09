/- The document's CheckTree, of what is read as a program. And more of the same. -/
import Derived.Test.YtoiiahpdbcokaaaGreatDoorZO
import Derived.Test.YtoiiahpdbcokaaaGreatDoorZShelfA
import Derived.Lib.ItoaLen
namespace Go.Proofs.YtoiiahpdbcokaaaGreatDoor
open Go.Value renaming int -> A, slice -> O, string -> H, pointer -> aB, bool -> az
open Go.IntKind renaming i64 -> I
open _root_.Option renaming none -> U, some -> Z
open Go.Addr renaming mk -> Y
open Go.Obj renaming cells -> M
open Go renaming lt_of_block -> J, World -> au, Calls -> aC
open Go.Ending renaming returned -> aE
open Go.RowKit.Below renaming refl -> aF
open Go.World renaming cell? -> aN, cell?_of_block -> en
open _root_.Bool renaming false -> ak, true -> ap, and_eq_true -> mr
open _root_.Nat renaming zero_le -> eJ, lt_of_lt_of_le -> gD
open _root_.List renaming length_append -> iG, length_cons -> iz, getElem_mem -> fD
open Go.RowKit renaming Hid -> ah
open _root_.Go.Proofs.Tryz
set_option maxRecDepth 100000
set_option maxHeartbeats 8000000
open Go.RowKit
open ag (aV cV ii dV bL Tr Po ba)
variable {w N wr wz:au} {b d0 d1 d2 d3 e m K C m2 E q Q:Nat} {S:Np} {a:List Tr} {c k n p X:Int} {R:Av} {t:bL} {z G F L:Oa} {s:Bt} {l:Lu}
theorem abX {a c d f g:Value}{e:TypeId}(h:w.heap[b]? =Z (M #[a,c,d,f,g] e)):w.cell? (Y b 0 U)=Z a/\w.cell? (Y b 1 U)=Z c/\w.cell? (Y b 2 U)=Z d/\w.cell? (Y b 3 U)=Z f/\w.cell? (Y b 4 U)=Z g:=by
 refine⟨?_,?_,?_,?_,?_⟩<;>simp[aN,h]
theorem aoz {g:bL}{ca:Lv}(hg:jj w S g ca)(hx:xP w)(hX:ag.DD g)(hN:ag.F1 g):aC prog 14 #[.agg ca.toArray] w fun e w'=>(∃c:Int,e=aE (A I c)/\(c=0↔uZ g))/\Bl w w':=by
 obtain⟨cv,av,nv,qv,rfl,hs,ha,hn,hq⟩:=hg;obtain⟨co,cc,rfl⟩:=yk hs;obtain⟨ao,ac,rfl⟩:=ha.val;obtain⟨no,nc,rfl⟩:=hn.val;obtain⟨qo,qc,rfl⟩:=hq.val;have HX:=am hx;have HS:=am hs;have HA:=am ha;have HN:=am hn;have HQ:=am hq;obtain⟨v0,fU⟩:=nm (w.alloc (M #[O co g.dl.length cc,O ao g.cZ.length ac,O no g.bz.length nc,O qo g.procs.length qc] 27));have ud:=am (eS fU);have af:=am (aa fU);have ql:=hX.xa;have lP:=hX.xg;have qZ:=hX.xd;have xw:=hX.wZ;have e1:decide ((6:Int)<(g.dl.length:Int))=ak:=(by simp;omega);have e2:decide ((10:Int)<(g.cZ.length:Int))=ak:=(by simp;omega);have e3:decide ((6:Int)<(g.bz.length:Int))=ak:=(by simp;omega);have e4:decide ((6:Int)<(g.procs.length:Int))=ak:=(by simp;omega);clear hs ha hn hq hx;have F:=af.out;obtain⟨x0,x1,x2,x3⟩:=uH F;have l9:=J F;clear F;go_enter func14,ntmps14;go_upto_region 1 with fail
 rw[<-fU];clear fU;go_wp2;clear x0 x1 x2 x3 l9 e1 e2 e3 e4;go_loopw [42] (fun i wr=>∃j:Nat,j<=g.dl.length/\i=A I j/\ah (Bl v0 wr)) (fun i _=>g.dl.length - (intOf i).toNat);case atStart=>exact⟨0,eJ _,rfl,aF _ _⟩
 case round=>
  obtain⟨j,hj,rfl,m⟩:=hrel;have qz:=kp m af;have a:=bt ud m;by_cases n:j<g.dl.length
  ·as_aux_lemma=>
   obtain⟨ro,o,u,vq,z,BD,lj,di⟩:=HS.Jq;simp only[Value.slice.injEq] at z;obtain⟨rfl,oT,rfl⟩:=z;clear oT;obtain rfl:=di.dR (by omega);have f:=di.lt (by omega);have f1:=(a.cell (p:=(Y o (u+j) U)) f).trans (di.cell j n);obtain⟨x,hx⟩:=nm (g.dl[j]);rw[<-hx] at f1;have lr:=gD f a.size;have l:aC prog 57 #[H x] wr fun e w'=>e=aE (az ap)/\Bl wr w':=(by have B:=tL (s:=x) (HX.later a) (by rw[hx];exact HS.sz _ (fD n));rw[show ag.dG x=ap by rw[hx];exact hX.zk _ (fD n)] at B;exact B);clear hx di lj BD;go_wp2_with fail;refine l.mono ?_;rintro e w5 ⟨rfl,jY⟩;have uV:=bt m jY;clear jY l;go_wp2;go_roundw;case rel=>exact⟨j+1,by omega,by go_num,uV⟩
   case measure=>simp[intOf];omega
  ·as_aux_lemma=>
   obtain⟨v1,rfl⟩:=nm wr;have ai:=qz;have ry:=a;clear m;have F:=ai.out;obtain⟨x0,x1,x2,x3⟩:=uH F;have l9:=J F;clear F;go_wp2;clear x0 x1 x2 x3 l9 n hj;go_loopw [6,53] (fun _ i wr=>∃j:Nat,j<=g.cZ.length/\i=A I j/\ah (Bl v1 wr)) (fun _ i _=>g.cZ.length - (intOf i).toNat);case atStart=>exact⟨0,eJ _,rfl,aF _ _⟩
   case round=>
    obtain⟨j,hj,rfl,m⟩:=hrel;have qz:=kp m ai;have a:=bt ry m;by_cases n:j<g.cZ.length
    ·as_aux_lemma=>
     obtain⟨ad,⟨ro,o,u,vq,z,v⟩,W,hk⟩:=HA.out;simp only[Value.slice.injEq] at z;obtain⟨rfl,oT,rfl⟩:=z;clear oT;have fg:j<ad.length:=(by rw[W];exact n);obtain rfl:=v.dR (by omega);have f:=v.lt (by omega);have k:=fun i ae=>v.cell j fg i ae;have C:=hk j n fg;obtain⟨c,l⟩:=nm (g.cZ[j]);have nS:c∈g.cZ:=(by rw[l];exact fD n);rw[<-l] at C;obtain⟨hx,hz⟩:=C;rw[hx] at k;have p0:=(a.cell (p:=(Y o (u+j*2) U)) f).trans (k 0 _ rfl);have p1:=(a.cell (p:=(Y o (u+j*2+1) U)) f).trans (k 1 _ rfl);have lr:=gD f a.size;clear l v hk k W;have mT:=hX.act c nS;obtain⟨P,E⟩:=nm (wr.alloc (M #[H c.1,H c.2] 55));obtain⟨n6,oo⟩:=nm wr.heap.size;have uN:=am (eS E);have K:ah (P.heap[n6]? =Z (M #[H c.1,H c.2] 55)):=(by show _=_;rw[E,oo];exact cu _ _ _ rfl);go_upto_region 12 with fail
     rw[<-E,<-oo];clear E oo p0 p1;have L:=cl K 0 rfl;have y:=J K;have l:aC prog 57 #[H c.1] P fun e w'=>e=aE (az ap)/\Bl P w':=by
      have B:=tL (s:=c.1) (HX.later (a.trans (uN.mono a.size))) hz.1;rw[mT.1] at B;exact B
     go_wp2_with fail;refine l.mono ?_;rintro x wa ⟨rfl,d⟩;have vW:=bt uN d;have R:=kp d K;clear l d L y;have G:=cl R 1 rfl;have y:=J R;have l:aC prog 57 #[H c.2] wa fun e w'=>e=aE (az ap)/\Bl wa w':=by
      have B:=tL (s:=c.2) (HX.later (a.trans (vW.mono a.size))) hz.2;rw[mT.2] at B;exact B
     go_wp2_with fail;refine l.mono ?_;rintro x Q ⟨rfl,d⟩;have AJ:=bt vW d;have vY:=kp d R;clear l d G y;have uV:=bt m AJ;go_wp2;go_roundw;case rel=>exact⟨j+1,by omega,by go_num,uV⟩
     case measure=>simp[intOf];omega
    ·as_aux_lemma=>
     obtain⟨v2,rfl⟩:=nm wr;have ar:=qz;have Gk:=a;clear m;have F:=ar.out;obtain⟨x0,x1,x2,x3⟩:=uH F;have l9:=J F;clear F;go_wp2;clear x0 x1 x2 x3 l9 n hj;go_loopw [8,71] (fun _ i wr=>∃j:Nat,j<=g.bz.length/\i=A I j/\ah (Bl v2 wr)) (fun _ i _=>g.bz.length - (intOf i).toNat);case atStart=>exact⟨0,eJ _,rfl,aF _ _⟩
     case round=>
      obtain⟨j,hj,rfl,m⟩:=hrel;have qz:=kp m ar;have a:=bt Gk m;by_cases n:j<g.bz.length
      ·as_aux_lemma=>
       obtain⟨ad,⟨ro,o,u,vq,z,v⟩,W,hk⟩:=HN.out;simp only[Value.slice.injEq] at z;obtain⟨rfl,oT,rfl⟩:=z;clear oT;have fg:j<ad.length:=(by rw[W];exact n);obtain rfl:=v.dR (by omega);have f:=v.lt (by omega);have k:=fun i ae=>v.cell j fg i ae;have C:=hk j n fg;obtain⟨c,l⟩:=nm (g.bz[j]);have nS:c∈g.bz:=(by rw[l];exact fD n);rw[<-l] at C;obtain⟨lv,hx,hz,T⟩:=C;obtain⟨lo,lc,rfl⟩:=T.val;rw[hx] at k;have p0:=(a.cell (p:=(Y o (u+j*5) U)) f).trans (k 0 _ rfl);have p1:=(a.cell (p:=(Y o (u+j*5+1) U)) f).trans (k 1 _ rfl);have p2:=(a.cell (p:=(Y o (u+j*5+2) U)) f).trans (k 2 _ rfl);have p3:=(a.cell (p:=(Y o (u+j*5+3) U)) f).trans (k 3 _ rfl);have p4:=(a.cell (p:=(Y o (u+j*5+4) U)) f).trans (k 4 _ rfl);have lr:=gD f a.size;clear l v hk k W;obtain⟨CT,mT,Si⟩:=hX.chan c nS;obtain⟨P,E⟩:=nm (wr.alloc (M #[A I c.at_,H c.name,az c.ul,A I c.type,O lo c.eo.length lc] 57));obtain⟨n6,oo⟩:=nm wr.heap.size;have uN:=am (eS E);have K:ah (P.heap[n6]? =Z (M #[A I c.at_,H c.name,az c.ul,A I c.type,O lo c.eo.length lc] 57)):=(by show _=_;rw[E,oo];exact cu _ _ _ rfl);go_upto_region 18 with fail
       rw[<-E,<-oo];clear E oo p0 p1 p2 p3 p4;obtain⟨L,G,N,a3,V⟩:=abX K;have y:=J K;obtain⟨X,xp⟩:=nm c.type;rw[<-xp] at a3 CT K;clear xp;rcases CT with rfl | rfl;all_goals
        have l:aC prog 57 #[H c.name] P fun e w'=>e=aE (az ap)/\Bl P w':=(by have B:=tL (s:=c.name) (HX.later (a.trans (uN.mono a.size))) hz;rw[mT] at B;exact B);go_wp2_with fail;refine l.mono ?_;rintro x wa ⟨rfl,d⟩;have vW:=bt uN d;have R:=kp d K;clear l d L G N a3 V y;have V:=(abX R).2.2.2.2;have y:=J R;have l:aC prog 58 #[O lo c.eo.length lc] wa fun e w'=>e=aE (az ap)/\Bl wa w':=(by have d:=a.trans (vW.mono a.size);exact xG (S:=fun b=>S b/\b<w.heap.size) (HX.later d) ((T.mono fun b d T=>⟨d,T⟩).keeps ⟨d.size,fun b h _=>d.block b h.2⟩) Si);go_wp2_with fail;refine l.mono ?_;rintro x Q ⟨rfl,d⟩;have AJ:=bt vW d;have vY:=kp d R;clear l d V y;have uV:=bt m AJ;go_wp2;go_roundw;case rel=>exact⟨j+1,by omega,by go_num,uV⟩
        case measure=>simp[intOf];omega
      ·as_aux_lemma=>
       obtain⟨v3,rfl⟩:=nm wr;have ax:=qz;have ki:=a;clear m;have F:=ax.out;obtain⟨x0,x1,x2,x3⟩:=uH F;have l9:=J F;clear F;go_wp2;clear x0 x1 x2 x3 l9 n hj;go_loopw [10,12,14,16,99] (fun _ _ _ _ i wr=>∃j:Nat,j<=g.procs.length/\i=A I j/\ah (Bl v3 wr)/\ah (∀i (h:i<g.procs.length),i<j->zQ g.procs[i])) (fun _ _ _ _ i _=>g.procs.length - (intOf i).toNat);case atStart=>exact⟨0,eJ _,rfl,aF _ _,fun i _ h=>absurd h (by omega)⟩
       case round=>
        obtain⟨j,hj,rfl,m,HJ⟩:=hrel;have qz:=kp m ax;have a:=bt ki m;by_cases n:j<g.procs.length
        ·as_aux_lemma=>
         obtain⟨ad,⟨wW,rp,A3,vq,z,v⟩,W,hk⟩:=HQ.out;simp only[Value.slice.injEq] at z;obtain⟨rfl,oT,rfl⟩:=z;clear oT;have fg:j<ad.length:=(by rw[W];exact n);obtain rfl:=v.dR (by omega);have f:=v.lt (by omega);have k:=fun i ae=>v.cell j fg i ae;have C:=hk j n fg;obtain⟨q,Bq⟩:=nm (g.procs[j]);have aJ:ah (∀h:j<g.procs.length,q=g.procs[j]):=fun _=>Bq;have nS:q∈g.procs:=(by rw[Bq];exact fD n);rw[<-Bq] at C;have BL:=hX.proc q nS;have aK:=hN.proc q nS;obtain⟨pv,rl,bv,fv,yv,hx,hz,_,hp,hr,xA,hf,hy⟩:=C;obtain⟨po,pc,rfl⟩:=hp.val;obtain⟨ro,rc,rfl⟩:=hr.val;obtain⟨bo,bc,rfl⟩:=xA.val;obtain⟨fo,fc,rfl⟩:=yk hf;obtain⟨yo,yc,rfl⟩:=hy.val;obtain⟨qX,bU⟩:=BL.res;obtain⟨X,xp⟩:=nm q.result.type;rw[qX,<-xp,show ba []=⟨#[]⟩ from rfl] at hx;rw[<-xp] at bU;rw[hx] at k;have p0:=(a.cell (p:=(Y rp (A3+j*9) U)) f).trans (k 0 _ rfl);have p1:=(a.cell (p:=(Y rp (A3+j*9+1) U)) f).trans (k 1 _ rfl);have p2:=(a.cell (p:=(Y rp (A3+j*9+2) U)) f).trans (k 2 _ rfl);have p3:=(a.cell (p:=(Y rp (A3+j*9+3) U)) f).trans (k 3 _ rfl);have p4:=(a.cell (p:=(Y rp (A3+j*9+4) U)) f).trans (k 4 _ rfl);have p5:=(a.cell (p:=(Y rp (A3+j*9+5) U)) f).trans (k 5 _ rfl);have p6:=(a.cell (p:=(Y rp (A3+j*9+6) U)) f).trans (k 6 _ rfl);have p7:=(a.cell (p:=(Y rp (A3+j*9+7) U)) f).trans (k 7 _ rfl);have p8:=(a.cell (p:=(Y rp (A3+j*9+8) U)) f).trans (k 8 _ rfl);have lr:=gD f a.size;have Va:=am hp;have P0:=am hf;have V5:=am hy;have IV:=am (aj hr xA);have aM:ag.gp q.result.eo=ap:=by
          rcases bU with⟨_,h⟩|⟨_,h⟩
          ·rw[h];rfl
          ·exact h
         have aT:(X=0/\q.result.eo.length=0)\/X=1\/X=2:=by
          rcases bU with⟨h,h'⟩|⟨h,_⟩
          ·exact .inl ⟨h,by rw[h'];rfl⟩
          ·exact .inr h
         have lN:=BL.Rc;have ol:=BL.OX;have bb:=BL.body.1;have d4:decide ((4:Int)<(q.params.length:Int))=ak:=(by simp;omega);have d20:decide ((20:Int)<(q.body.length:Int))=ak:=(by simp;omega);have d6:decide ((6:Int)<(q.for_.length:Int))=ak:=(by simp;omega);obtain⟨P,E⟩:=nm (wr.alloc (M #[A I q.at_,H q.name,O po q.params.length pc,H ⟨#[]⟩,A I X,O ro q.result.eo.length rc,O bo q.pQ.length bc,O fo q.for_.length fc,O yo q.body.length yc] 65));obtain⟨n6,oo⟩:=nm wr.heap.size;have uN:=am (eS E);have K:ah (P.heap[n6]? =Z (M #[A I q.at_,H q.name,O po q.params.length pc,H ⟨#[]⟩,A I X,O ro q.result.eo.length rc,O bo q.pQ.length bc,O fo q.for_.length fc,O yo q.body.length yc] 65)):=(by show _=_;rw[E,oo];exact cu _ _ _ rfl);clear hp hr xA hf hy hx k v hk W Bq bU qX xp;go_upto_region 24 with fail
         rw[<-E,<-oo];clear E oo p0 p1 p2 p3 p4 p5 p6 p7 p8;obtain⟨L,G,N,a3,V,a5,a6,a7,a8⟩:=ow K;have y:=J K;have l:aC prog 57 #[H q.name] P fun e w'=>e=aE (az ap)/\Bl P w':=by
          have B:=tL (s:=q.name) (HX.later (a.trans (uN.mono a.size))) hz;rw[BL.name] at B;exact B
         go_wp2_with fail;refine l.mono ?_;rintro x wa ⟨rfl,d⟩;have vW:=bt uN d;have R:=kp d K;clear l d L G N a3 V a5 a6 a7 a8 y;obtain⟨L,G,N,a3,V,a5,a6,a7,a8⟩:=ow R;have y:=J R;have l:aC prog 58 #[O bo q.pQ.length bc] wa fun e w'=>e=aE (az ap)/\Bl wa w':=by
          have d:=a.trans (vW.mono a.size);exact xG (S:=fun b=>S b/\b<w.heap.size) (HX.later d) ((IV.2.mono fun b d T=>⟨d,T⟩).keeps ⟨d.size,fun b h _=>d.block b h.2⟩) BL.TT
         go_wp2_with fail;refine l.mono ?_;rintro x Q ⟨rfl,d⟩;have AJ:=bt vW d;have vY:=kp d R;clear l d L G N a3 V a5 a6 a7 a8 y;obtain⟨L,G,N,a3,V,a5,a6,a7,a8⟩:=ow vY;have y:=J vY;have l:aC prog 58 #[O ro q.result.eo.length rc] Q fun e w'=>e=aE (az ap)/\Bl Q w':=by
          have d:=a.trans (AJ.mono a.size);exact xG (S:=fun b=>S b/\b<w.heap.size) (HX.later d) ((IV.1.mono fun b d T=>⟨d,T⟩).keeps ⟨d.size,fun b h _=>d.block b h.2⟩) aM
         go_wp2_with fail;refine l.mono ?_;rintro x u3 ⟨rfl,d⟩;have U1:=bt AJ d;have U7:=kp d vY;clear l d L G N a3 V a5 a6 a7 a8 y;have aW:=kp U1 qz;have aX:=bt a U1;obtain⟨wo,rfl⟩:=nm wr;obtain⟨jo,rfl⟩:=nm j;have ay:=m;clear m;obtain⟨L,G,N,a3,V,a5,a6,a7,a8⟩:=ow U7;have y:=J U7;rcases aT with⟨rfl,je⟩| rfl | rfl;all_goals go_wp2
         all_goals clear L G N a3 V a5 a6 a7 a8 y
         all_goals
          go_loopw [12,158] (fun _ i wr=>∃j:Nat,j<=q.params.length/\i=A I j/\ah (Bl u3 wr)) (fun _ i _=>q.params.length - (intOf i).toNat)
          case atStart=>exact⟨0,eJ _,rfl,aF _ _⟩
          case round=>
           obtain⟨j,hj,rfl,m⟩:=hrel;have qz:=kp m aW;have a:=bt aX m;by_cases n:j<q.params.length
           ·as_aux_lemma=>
            obtain⟨ad,⟨ro,o,u,vq,z,v⟩,W,hk⟩:=Va.out;simp only[Value.slice.injEq] at z;obtain⟨rfl,oT,rfl⟩:=z;clear oT;have fg:j<ad.length:=(by rw[W];exact n);obtain rfl:=v.dR (by omega);have f:=v.lt (by omega);have k:=fun i ae=>v.cell j fg i ae;have C:=hk j n fg;obtain⟨c,l⟩:=nm (q.params[j]);have aZ:c∈q.params:=(by rw[l];exact fD n);rw[<-l] at C;obtain⟨lv,hx,hz,T⟩:=C;obtain⟨lo,lc,rfl⟩:=T.val;rw[hx] at k;have p0:=(a.cell (p:=(Y o (u+j*3) U)) f).trans (k 0 _ rfl);have p1:=(a.cell (p:=(Y o (u+j*3+1) U)) f).trans (k 1 _ rfl);have p2:=(a.cell (p:=(Y o (u+j*3+2) U)) f).trans (k 2 _ rfl);have lr:=gD f a.size;clear l v hk k W;obtain⟨mT,CT,Si⟩:=BL.par c aZ;obtain⟨P,E⟩:=nm (wr.alloc (M #[H c.name,A I c.type,O lo c.eo.length lc] 60));obtain⟨n7,qj⟩:=nm wr.heap.size;have uN:=am (eS E);have K:ah (P.heap[n7]? =Z (M #[H c.name,A I c.type,O lo c.eo.length lc] 60)):=(by show _=_;rw[E,qj];exact cu _ _ _ rfl);go_upto_region 38 with fail
            rw[<-E,<-qj];clear E qj p0 p1 p2;obtain⟨⟨L,G,N⟩,_⟩:=ox K;have y:=J K;obtain⟨tt,qW⟩:=nm c.type;rw[<-qW] at G CT K;clear qW;rcases CT with rfl | rfl;all_goals
             have l:aC prog 57 #[H c.name] P fun e w'=>e=aE (az ap)/\Bl P w':=(by have B:=tL (s:=c.name) (HX.later (a.trans (uN.mono a.size))) hz;rw[mT] at B;exact B);go_wp2_with fail;refine l.mono ?_;rintro x wa ⟨rfl,d⟩;have vW:=bt uN d;have R:=kp d K;clear l d L G N y;have N:=(ox R).1.2.2;have y:=J R;have l:aC prog 58 #[O lo c.eo.length lc] wa fun e w'=>e=aE (az ap)/\Bl wa w':=(by have d:=a.trans (vW.mono a.size);exact xG (S:=fun b=>S b/\b<w.heap.size) (HX.later d) ((T.mono fun b d T=>⟨d,T⟩).keeps ⟨d.size,fun b h _=>d.block b h.2⟩) Si);go_wp2_with fail;refine l.mono ?_;rintro x Q ⟨rfl,d⟩;have AJ:=bt vW d;have vY:=kp d R;clear l d N y;have uV:=bt m AJ;go_wp2;go_roundw;case rel=>exact⟨j+1,by omega,by go_num,uV⟩
             case measure=>simp[intOf];omega
           ·as_aux_lemma=>
            obtain⟨u4,rfl⟩:=nm wr;have a0:=qz;have a1:=a;have U6:=kp m U7;have a2:=bt U1 m;clear m;obtain⟨L,G,N,a3,V,a5,a6,a7,a8⟩:=ow U6;have y:=J U6;go_wp2;clear L G N a3 V a5 a6 a7 a8 y n hj;go_loopw [14,186] (fun _ i wr=>∃j:Nat,j<=q.for_.length/\i=A I j/\ah (Bl u4 wr)) (fun _ i _=>q.for_.length - (intOf i).toNat);case atStart=>exact⟨0,eJ _,rfl,aF _ _⟩
            case round=>
             obtain⟨j,hj,rfl,m⟩:=hrel;have qz:=kp m a0;have a:=bt a1 m;by_cases n:j<q.for_.length
             ·as_aux_lemma=>
              obtain⟨ro,o,u,vq,z,BD,lj,di⟩:=P0.Jq;simp only[Value.slice.injEq] at z;obtain⟨rfl,oT,rfl⟩:=z;clear oT;obtain rfl:=di.dR (by omega);have f:=di.lt (by omega);have f1:=(a.cell (p:=(Y o (u+j) U)) f).trans (di.cell j n);obtain⟨x,hx⟩:=nm (q.for_[j]);rw[<-hx] at f1;have lr:=gD f a.size;have l:aC prog 57 #[H x] wr fun e w'=>e=aE (az ap)/\Bl wr w':=(by have B:=tL (s:=x) (HX.later a) (by rw[hx];exact P0.sz _ (fD n));rw[show ag.dG x=ap by rw[hx];exact BL.fo _ (fD n)] at B;exact B);clear hx di lj BD;go_wp2_with fail;refine l.mono ?_;rintro e w5 ⟨rfl,jY⟩;have uV:=bt m jY;clear jY l;go_wp2;go_roundw;case rel=>exact⟨j+1,by omega,by go_num,uV⟩
              case measure=>simp[intOf];omega
             ·as_aux_lemma=>
              obtain⟨u5,rfl⟩:=nm wr;have a4:=qz;have V4:=a;have aG:=kp m U6;have aI:=bt a2 m;clear m;obtain⟨L,G,N,a3,V,a5,a6,a7,a8⟩:=ow aG;have y:=J aG;go_wp2;clear L G N a3 V a5 a6 a7 a8 y n hj;go_loopw [16,197] (fun _ i wr=>∃j:Nat,j<=q.body.length/\i=A I j/\ah (Bl u5 wr)/\ah (∀i (h:i<q.body.length),i<j->eO q.body[i])) (fun _ i _=>q.body.length - (intOf i).toNat);case atStart=>exact⟨0,eJ _,rfl,aF _ _,fun i _ h=>absurd h (by omega)⟩
              case round=>
               obtain⟨j,hj,rfl,m,HK⟩:=hrel;have qz:=kp m a4;have a:=bt V4 m;by_cases n:j<q.body.length
               ·as_aux_lemma=>
                obtain⟨ad,⟨wW,o,u,vq,z,v⟩,W,hk⟩:=V5.out;simp only[Value.slice.injEq] at z;obtain⟨rfl,oT,rfl⟩:=z;clear oT;have fg:j<ad.length:=(by rw[W];exact n);obtain rfl:=v.dR (by omega);have f:=v.lt (by omega);have k:=fun i ae=>v.cell j fg i ae;have C:=hk j n fg;obtain⟨x0,x1,x2,x3,x4,x5,jT,j7,x6,x7,x8,x9,fS,fR,yF,zh,fQ,yE,zg,fP,yD,ze,fO,yC,zb,hx⟩:=JB C;rw[hx] at C k;have p0:=(a.cell (p:=(Y o (u+j*15) U)) f).trans (k 0 _ rfl);have p1:=(a.cell (p:=(Y o (u+j*15+1) U)) f).trans (k 1 _ rfl);have p2:=(a.cell (p:=(Y o (u+j*15+2) U)) f).trans (k 2 _ rfl);have p3:=(a.cell (p:=(Y o (u+j*15+3) U)) f).trans (k 3 _ rfl);have p4:=(a.cell (p:=(Y o (u+j*15+4) U)) f).trans (k 4 _ rfl);have p5:=(a.cell (p:=(Y o (u+j*15+5) U)) f).trans (k 5 _ rfl);have p6:=(a.cell (p:=(Y o (u+j*15+6) U)) f).trans (k 6 _ rfl);have p7:=(a.cell (p:=(Y o (u+j*15+7) U)) f).trans (k 7 _ rfl);have p8:=(a.cell (p:=(Y o (u+j*15+8) U)) f).trans (k 8 _ rfl);have p9:=(a.cell (p:=(Y o (u+j*15+9) U)) f).trans (k 9 _ rfl);have GV:=(a.cell (p:=(Y o (u+j*15+10) U)) f).trans (k 10 _ rfl);have GU:=(a.cell (p:=(Y o (u+j*15+11) U)) f).trans (k 11 _ rfl);have GT:=(a.cell (p:=(Y o (u+j*15+12) U)) f).trans (k 12 _ rfl);have GR:=(a.cell (p:=(Y o (u+j*15+13) U)) f).trans (k 13 _ rfl);have GQ:=(a.cell (p:=(Y o (u+j*15+14) U)) f).trans (k 14 _ rfl);have lr:=gD f a.size;obtain⟨wy,fZ⟩:=nm (wr.alloc (M #[A I x0,A I x1,H x2,H x3,az x4,O x5 jT j7,A I x6,A I x7,A I x8,A I x9,H fS,O fR yF zh,O fQ yE zg,O fP yD ze,O fO yC zb] 109));have ib:=eS fZ;have aH:=a.trans (ib.mono a.size);obtain⟨Jx,yL⟩:∃r,dB (eO q.body[j])=r:=⟨_,rfl⟩;have qG:=am yL;have Og:=fD n;have cT:=amI (BL.body.2 _ Og) (aK.body.2 _ Og) wy (fun b=>S b/\b<w.heap.size) _ 1 (iA.keeps (iA.mono C fun b d T=>⟨d,T⟩) ⟨aH.size,fun b d _=>aH.block b d.2⟩) (HX.later aH) (by decide);rw[yL] at cT
                have tj:=am fZ;have dD:=bt m ib;clear C k hx v hk W ib aH fZ yL;go_wp2_with fail;rw[<-tj.out];refine cT.mono ?_;rintro x w9 ⟨rfl,F⟩;have uU:=bt dD F;clear F cT;cases Jx with
                | false=>
                 have HF:ah (¬uZ g):=fun h=>by
                  have C:=nE (h q nS _ Og);rw[qG.out] at C;cases C
                 go_wp2;go_ret;exact⟨⟨_,rfl,fun h=>absurd h (by decide),fun h=>absurd h HF⟩,V4.trans (uU.mono V4.size)⟩
                | true=>
                 have Mm:ah (∀i (h:i<q.body.length),i<j+1->eO q.body[i]):=fun i hi Sn=>by
                  by_cases lq:i=j
                  ·subst lq;apply Classical.byContradiction;intro iS;have:=nF iS;rw[qG.out] at this;cases this
                  ·exact HK.out i hi (by omega)
                 go_wp2;go_roundw;case rel=>exact⟨j+1,by omega,by go_num,uU,Mm⟩
                 case measure=>simp[intOf];omega
               ·as_aux_lemma=>
                have I5:=am (ay.trans ((aI.trans (m.mono aI.size)).mono ay.size));have a9:ah (∀i (h:i<g.procs.length),i<jo+1->zQ g.procs[i]):=fun i hi Sn=>by
                 by_cases lq:i=jo
                 ·subst lq;rw[<-aJ.out hi];intro x hx;obtain⟨t,ht,rfl⟩:=List.getElem_of_mem hx;exact HK.out t ht (by omega)
                 ·exact HJ.out i hi (by omega)
                go_wp2;go_roundw;case rel=>exact⟨jo+1,by omega,by go_num,I5,a9⟩
                case measure=>simp[intOf];omega
        ·as_aux_lemma=>
         have HF:ah (uZ g):=fun x hx=>by
          obtain⟨i,hi,rfl⟩:=List.getElem_of_mem hx;exact HJ.out i hi (by omega)
         go_wp2;go_ret;exact⟨⟨_,rfl,fun _=>HF.out,fun _=>rfl⟩,a.out⟩
open ag (Tok Po Tr nx bI aO ba aA aV cV ii dV bL)
structure CkS (w0 W wr:au)(B B2 M:Nat)(Ki ri:List PK)(a:List dV)(j:Nat):Prop where
 ff:Bl w0 wr
 s1:bV wr B Ki
 s2:bV wr B2 ri
 i1:gP w0 Ki 0
 i2:mJ w0 ri 0
 all:∀x∈a.take j,zQ x
 box:wr.heap[M]? =Z (.cells #[.map (Z B),.map (Z B2)] 97)
theorem aet {a:List dV}{j:Nat}(b:j<a.length)(h:∀x∈a.take j,zQ x)(c:zQ a[j]):∀x∈a.take (j+1),zQ x:=by
 intro x hx;rw[List.take_succ_eq_append_getElem b,List.mem_append] at hx;rcases hx with hx | hx
 ·exact h x hx
 ·rw[List.mem_singleton.1 hx];exact c
def We (w:au)(p:bL)(x:Ending)(w':au):Prop:=x=aE (A I (if dB (uZ p)=ap then 0 else 4))/\Bl w w'
theorem ahy {q:Bt×Bt}(b:w=wr.alloc (M #[H q.1,H q.2] 55)):Strs w (Z (Y wr.heap.size 0 U)) wr.heap.size 0 [q.1,q.2]:=by
 have a:=aa b;refine⟨fun _=>rfl,fun k c=> ?_,fun _=>J a⟩
 match k,c with
 | 0,_=>simp[aN,a]
 | 1,_=>simp[aN,a]
 | k+2,h=>simp at h;omega
theorem aoF {p:bL}{co:Oa}{cn cc:Nat}{ao:Oa}{an ac:Nat}{no:Oa}{P nc:Nat}{qo:Oa}{u qc:Nat}(hp:jj w S p [O co cn cc,O ao an ac,O no P nc,O qo u qc])(F:ag.DD p)(er:gU w w.heap.size):
 aC prog 11 #[.agg #[O co cn cc,O ao an ac,O no P nc,O qo u qc]] w (We w p):=by
 obtain⟨cv,av,nv,qv,e1,h1,h2,h3,h4⟩:=hp;simp only[List.cons.injEq,and_true] at e1;obtain⟨rfl,rfl,rfl,rfl⟩:=e1;obtain⟨g,aI⟩:=nm (w.alloc (M #[O co cn cc,O ao an ac,O no P nc,O qo u qc] 27));have bG:=eS aI;have fV:=aa aI;have ay:=J fV;have C5:=aP.bm (S:=S) bG;have Mi:ah (gU g g.heap.size):=(er.keeps bG.size fun b hb=>bG.block b hb).mono (by omega);have aG:=am ((h1.keeps C5).mono fun b _ h=>h);have V8:=am ((h2.keeps (fun h=>ia.keeps h C5) C5).mono (fun h=>ia.mono h fun b _ h=>h) fun b _ h=>h);have V0:=am ((h3.keeps (fun h=>gy.keeps h C5) C5).mono (fun h=>gy.mono h fun b _ h=>h) fun b _ h=>h);have aH:=am ((h4.keeps (fun h=>gh.keeps h C5) C5).mono (fun h=>gh.mono h fun b _ h=>h) fun b _ h=>h);have V:cn=p.dl.length:=(by obtain⟨_,_,_,_,e,_⟩:=QE h1;cases e;rfl);have iE:an=p.cZ.length:=(by obtain⟨_,_,e⟩:=h2.val;cases e;rfl);have sS:P=p.bz.length:=(by obtain⟨_,_,e⟩:=h3.val;cases e;rfl);have ai:u=p.procs.length:=(by obtain⟨_,_,e⟩:=h4.val;cases e;rfl);have uR:=am (aj V (aj iE (aj sS ai)));have b1:decide ((6:Int)<(cn:Int))=ak:=(by have:=F.xa;simp;omega);have b2:decide ((10:Int)<(an:Int))=ak:=(by have:=F.xg;simp;omega);have b3:decide ((6:Int)<(P:Int))=ak:=(by have:=F.xd;simp;omega);have b4:decide ((6:Int)<(u:Int))=ak:=(by have:=F.wZ;simp;omega);have l2:an<=10:=(by have:=F.xg;omega);have l3:P<=6:=(by have:=F.xd;omega);have l4:u<=6:=(by have:=F.wZ;omega);have H1:=Yl aG.out F.zk (by have:=F.xa;omega);have HX:=am F;have kj:ah (Bl w g):=bG;have lV:ah (∀ae,Bl g ae->(ae.cell? (Y w.heap.size 1 U)=Z (O ao an ac)/\ae.cell? (Y w.heap.size 2 U)=Z (O no P nc)/\ae.cell? (Y w.heap.size 3 U)=Z (O qo u qc))/\w.heap.size<ae.heap.size):=fun ae hW=>by
  have C:=(hW.block _ ay).trans fV;refine⟨⟨?_,?_,?_⟩,J C⟩<;>simp[aN,C]
 clear h1 h2 h3 h4 F er bG fV C5 V iE sS ai;go_enter func11,ntmps11;go_wp2_with fail;rw[<-aI];clear aI;refine H1.mono ?_;rintro x w1 ⟨rfl,W⟩;have F5:ah (Bl g w1):=W;obtain⟨⟨k1,k2,k3⟩,ql⟩:=lV.out w1 W;clear W H1;go_wp2;go_loopw [39] (fun i wr=>∃j:Nat,j<=an/\i=A I j/\ah (Bl g wr)) (fun i _=>an - (intOf i).toNat);case atStart=>exact⟨0,eJ _,rfl,F5⟩
 case round=>
  clear k1 k2 k3 ql;obtain⟨j,hj,rfl,k⟩:=hrel;by_cases aK:j<an
  ·obtain⟨ad,⟨ig,ab,m,IF,hv,o⟩,V,C⟩:=V8.out;simp only[Value.slice.injEq] at hv;obtain⟨rfl,jL,rfl⟩:=hv;have uw:j<ad.length:=(by omega);have Q:j<p.cZ.length:=(by omega);obtain rfl:=o.dR (by omega);obtain⟨f1,f2,f3⟩:=C j Q uw;have eZ:=o.lt (by omega);have aJ:ab<wr.heap.size:=gD eZ k.size;have E:∀i G,ad[j][i]? =Z G->wr.cell? (Y ab (m+j*2+i) U)=Z G:=fun i G hu=>(k.cell (p:=(Y ab (m+j*2+i) U)) eZ).trans (o.cell j uw i G hu);rw[f1] at E;have c0:wr.cell? (Y ab (m+j*2) U)=_:=E 0 _ rfl;have c1:=E 1 _ rfl;have K:=HX.act _ (fD Q);obtain⟨q,r⟩:∃q,q=p.cZ[j]:=⟨_,rfl⟩;rw[<-r] at c0 c1 f2 f3 K;obtain⟨l,X⟩:∃l,l=wr.alloc (M #[H q.1,H q.2] 55):=⟨_,rfl⟩;have KU:Bl wr l:=by rw[X];exact(aF _ _).alloc (Nat.le_refl _) _
   have An:=Rt (Z (Y wr.heap.size 0 U)) wr.heap.size 0 2 2 [q.1,q.2] l rfl (by omega) (ahy X) (fun s hs=>by
    simp only[List.mem_cons,List.not_mem_nil,or_false] at hs;rcases hs with rfl | rfl
    ·exact f2
    ·exact f3)
   rw[show ag.yB [q.1,q.2]=ap by simp[ag.yB,K.1,K.2]] at An;have Gn:ah (Bl g l):=k.trans (KU.mono k.size);clear o V C jL f1 f2 f3 E eZ K r KU;go_wp2_with fail;rw[<-X];clear X;refine An.mono ?_;rintro x V2 ⟨rfl,R⟩;have dD:=bt Gn R;clear R An;go_wp2;go_roundw;case rel=>exact⟨j+1,by omega,by go_num,dD⟩
   case measure=>simp[intOf];omega
  ·obtain⟨⟨k1,k2,k3⟩,ql⟩:=lV.out wr k.out;go_wp2;go_loopw [50] (fun i y=>∃j:Nat,j<=P/\i=A I j/\ah (Bl g y)) (fun i _=>P - (intOf i).toNat);case atStart=>exact⟨0,eJ _,rfl,k⟩
   case round=>
    clear k1 k2 k3 ql k;obtain⟨y,rfl⟩:=nm wr;obtain⟨i,hi,rfl,k⟩:=hrel;by_cases vE:i<P
    ·obtain⟨ad,⟨ig,ab,m,IF,hv,o⟩,V,C⟩:=V0.out;simp only[Value.slice.injEq] at hv;obtain⟨rfl,jL,rfl⟩:=hv;have uw:i<ad.length:=(by omega);have Q:i<p.bz.length:=(by omega);obtain rfl:=o.dR (by omega);obtain⟨lv,f1,f2,f3⟩:=C i Q uw;obtain⟨lo,lc,rfl⟩:=f3.val;have eZ:=o.lt (by omega);have aJ:ab<y.heap.size:=gD eZ k.size;have E:∀i2 G,ad[i][i2]? =Z G->y.cell? (Y ab (m+i*5+i2) U)=Z G:=fun i2 G hu=>(k.cell (p:=(Y ab (m+i*5+i2) U)) eZ).trans (o.cell i uw i2 G hu);rw[f1] at E;have c0:y.cell? (Y ab (m+i*5) U)=_:=E 0 _ rfl;have c1:=E 1 _ rfl;have c2:=E 2 _ rfl;have c3:=E 3 _ rfl;have c4:=E 4 _ rfl;have K:=HX.chan _ (fD Q);obtain⟨q,r⟩:∃q,q=p.bz[i]:=⟨_,rfl⟩;rw[<-r] at c0 c1 c2 c3 c4 f2 f3 K;obtain⟨ar,name,ul,af,eo⟩:=q;simp only at c0 c1 c2 c3 c4 f2 f3 K;obtain⟨ln,jO⟩:∃ln,ln=eo.length:=⟨_,rfl⟩;rw[<-jO] at c4 f3;obtain⟨l,X⟩:∃l,l=y.alloc (M #[A I ar,H name,az ul,A I af,O lo ln lc] 57):=⟨_,rfl⟩;have KU:Bl y l:=(by rw[X];exact(aF _ _).alloc (Nat.le_refl _) _);have Kv:l.heap[y.heap.size]? =Z (M #[A I ar,H name,az ul,A I af,O lo ln lc] 57):=(by rw[X];exact cu _ _ _ rfl);have v1:l.cell? (Y y.heap.size 1 U)=Z (H name):=(by simp[aN,Kv]);have v3:l.cell? (Y y.heap.size 3 U)=Z (A I af):=(by simp[aN,Kv]);have v4:l.cell? (Y y.heap.size 4 U)=Z (O lo ln lc):=(by simp[aN,Kv]);have aZ:=J Kv;have Gn:ah (Bl g l):=k.trans (KU.mono k.size);have G1:=SO af K.1 l;have G2:=G7 name l f2 K.2.1;have G3:=JZ (f3.keeps (aP.bm Gn.out)) K.2.2;clear o V C jL f1 f2 f3 E eZ K r KU jO Kv;go_wp2_with fail;rw[<-X];clear X;refine G1.mono ?_;rintro x V1 ⟨rfl,cI⟩;have ij:=cI.symm;subst ij;go_wp2_with fail;refine G2.mono ?_;rintro x V1 ⟨rfl,cI⟩;have ij:=cI.symm;subst ij;go_wp2_with fail;refine G3.mono ?_;rintro x V2 ⟨rfl,R⟩;have dD:=bt Gn R;clear R G1 G2 G3;go_wp2;go_roundw;case rel=>exact⟨i+1,by omega,by go_num,dD⟩
     case measure=>simp[intOf];omega
    ·have Fj:=aih y;go_wp2_with fail;refine Fj.mono ?_;rintro x V1 ⟨rfl,g1,g2,W⟩;obtain⟨d,hB⟩:=nm (y.heap.size+1);obtain⟨f,mg⟩:=nm (y.heap.size+2);rw[<-hB,<-mg];rw[<-hB] at g1;rw[<-mg] at g2;obtain⟨V2,OH⟩:=nm (V1.alloc (M #[.map (Z d),.map (Z f)] 97));have R:=eS OH;have gL:=aa OH;have Ag:=k.size;have Om:=g1.lt;have Ol:=g2.lt;have ax:=am ((k.trans (W.mono k.size)).trans (R.mono (by have:=W.size;omega)));have AI:ah (CkS g w V2 d f V1.heap.size [] [] p.procs 0):=⟨ax.out,yp g1 R,yp g2 R,gP.none _ _,fun q r=>by simp at r,by simp,gL⟩;obtain⟨c,hM⟩:=nm V1.heap.size;rw[<-hM] at AI;have L:ah (g.heap.size<=d/\g.heap.size<=f/\f≠d/\c≠d/\c≠f/\w.heap.size≠d/\w.heap.size≠f/\g.heap.size<=c):=(by refine⟨?_,?_,?_,?_,?_,?_,?_,?_⟩<;>(have:=W.size;omega));obtain⟨⟨k1,k2,k3⟩,ql⟩:=lV.out V2 ax.out;obtain⟨⟨aM,aT,aW⟩,aX⟩:=lV.out V1 (k.trans (W.mono k.size));clear Fj g1 g2 W R gL Om Ol hB mg;go_wp2;rw[<-OH,<-hM];clear OH hM k1 k2 k3 aM aT aW ql aX;go_loopw [75] (fun i T=>∃(j:Nat) (Ki ri:List PK),j<=u/\i=A I j/\ah (CkS g w T d f c Ki ri p.procs j)) (fun i _=>u - (intOf i).toNat);case atStart=>exact⟨0,_,_,eJ _,rfl,AI⟩
     case round=>
      obtain⟨T,rfl⟩:=nm wr;obtain⟨t,Ki,ri,ht,rfl,z⟩:=hrel;obtain⟨⟨k1,k2,k3⟩,ql⟩:=lV.out T z.ff;by_cases a0:t<u
      ·obtain⟨ad,⟨ig,ab,m,IF,hv,o⟩,V,C⟩:=aH.out;simp only[Value.slice.injEq] at hv;obtain⟨rfl,jL,rfl⟩:=hv;have uw:t<ad.length:=(by omega);have Q:t<p.procs.length:=(by omega);obtain rfl:=o.dR (by omega);obtain⟨l0,l1⟩:=qw z.box;have Kt:=J z.box;have cT:=agr L.1 L.2.1 L.2.2.1 Mi.out (W:=T.drew) (b:=ab) (off:=m+t*9) (Ds z.ff 1) (z.s1.keeps rfl fun _ _=>rfl) (z.s2.keeps rfl fun _ _=>rfl) z.i1 z.i2 ⟨o.lt (by omega),fun i G hu=>o.cell t uw i G hu⟩ (C t Q uw) (HX.proc _ (fD Q));have La:=L.2.2.2.1;have K9:=L.2.2.2.2.1;have ZD:=L.2.2.2.2.2.1;have ZC:=L.2.2.2.2.2.2.1;unfold Ug at cT;by_cases r:zQ p.procs[t]
       ·have HQ:=am r;rw[nE r] at cT;have xW:ah (aC prog 45 #[.agg #[.map (Z d),.map (Z f)],aB (Z (Y ab (m+t*9) U))] T.drew fun x W'=>∃K' eT,x=aE (A I 0)/\bV W' d K'/\bV W' f eT/\eH d f T.drew W'/\gP g K' 0/\mJ g eT 0):=cT.mono fun x W' ⟨K',eT,e1,e2,e3,e4,e5⟩=>⟨K',eT,e1,e2,e3,e4,e5 r⟩;clear cT r o V C jL;go_wp2
        go_region_held3 (fun w'=>w'.cell? (Y c 0 U)=Z (.map (Z d))/\w'.cell? (Y c 1 U)=Z (.map (Z f))/\w'.cell? (Y w.heap.size 3 U)=Z (O (Z (Y ab m U)) u qc)) (go_keep)
         (first
           |(go_at_call 45;refine(xW.out).mono ?_;rintro x N ⟨K',eT,rfl,g1,g2,B,g4,g5⟩;have H3:ah (bV N d K'∧bV N f eT∧eH d f T.drew N∧gP g K' 0∧mJ g eT 0):=⟨g1,g2,B,g4,g5⟩;have q0:N.cell? (Y c 0 U)=Z (.map (Z d)):=(en (a:=(Y c 0 U)) (B.block c Kt La K9)).trans l0;have q1:N.cell? (Y c 1 U)=Z (.map (Z f)):=(en (a:=(Y c 1 U)) (B.block c Kt La K9)).trans l1;have q2:N.cell? (Y w.heap.size 3 U)=Z (O (Z (Y ab m U)) u qc):=(en (a:=(Y w.heap.size 3 U)) (B.block w.heap.size ql ZD ZC)).trans k3;clear g1 g2 B g4 g5))
        all_goals go_wp2
        go_roundw
        case rel=>
         refine⟨t+1,K',eT,by omega,by go_num,?_⟩;obtain⟨g1,g2,B,g4,g5⟩:=H3.out;exact⟨(eH.Cy (n:=1) B).below z.ff L.1 L.2.1,g1,g2,g4,g5,aet Q z.all HQ.out,(B.block _ Kt La K9).trans z.box⟩
        case measure=>simp[intOf];omega
       ·have HQ:ah (¬uZ p):=fun h=>r (h _ (fD Q));rw[nF r] at cT;have xW:ah (aC prog 45 #[.agg #[.map (Z d),.map (Z f)],aB (Z (Y ab (m+t*9) U))] T.drew fun x W'=>x=aE (A I 4)/\eH d f T.drew W'):=cT.mono fun x W' ⟨K',eT,e1,e2,e3,e4,e5⟩=>⟨e1,e4⟩;clear cT r o V C jL;go_wp2
        go_region_held3 (fun w'=>w'.cell? (Y c 0 U)=Z (.map (Z d))/\w'.cell? (Y c 1 U)=Z (.map (Z f))/\w'.cell? (Y w.heap.size 3 U)=Z (O (Z (Y ab m U)) u qc)) (go_keep)
         (first
           |(go_at_call 45;refine(xW.out).mono ?_;rintro x N ⟨rfl,B⟩;have H3:ah (eH d f T.drew N):=B;have q0:N.cell? (Y c 0 U)=Z (.map (Z d)):=(en (a:=(Y c 0 U)) (B.block c Kt La K9)).trans l0;have q1:N.cell? (Y c 1 U)=Z (.map (Z f)):=(en (a:=(Y c 1 U)) (B.block c Kt La K9)).trans l1;have q2:N.cell? (Y w.heap.size 3 U)=Z (O (Z (Y ab m U)) u qc):=(en (a:=(Y w.heap.size 3 U)) (B.block w.heap.size ql ZD ZC)).trans k3;clear B))
        all_goals go_wp2
        refine bodyPost_ret (v:=A I 4) (by simp[results,results11,go_sem]) rfl ?_;exact⟨by rw[nF HQ.out];rfl,kj.trans (((eH.Cy (n:=1) H3.out).below z.ff L.1 L.2.1).mono kj.size)⟩
      ·have HQ:ah (uZ p):=(by have h:=z.all;rw[List.take_of_length_le (by have:=uR.out;omega)] at h;exact h);go_wp2;refine bodyPost_ret (v:=A I 0) (by simp[results,results11,go_sem]) rfl ?_;exact⟨by rw[nE HQ.out];rfl,kj.trans (z.ff.mono kj.size)⟩
namespace ag
theorem fw {b d:Type}{x:aA b}{f:b->List Tok->aA d}(hx:∀c q,x=.no c q->c=1\/c=2)(hf:∀a,gJ (f a)):∀c q,x.bind f=.no c q->c=1\/c=2:=by
 intro c q h;cases x with
 | no e g=>cases h;exact hx _ _ rfl
 | ok a r=>exact hf a r c q h
theorem qQ {b d:Type}(f:b->d)(a:b):gJ (fun r=>aA.ok (f a) r):=fun ts c q h=>by cases h
theorem GE (e:Nat)(s:aV):gJ (mP e s):=fun ts=>fw (oM e [59] ts) fun _=>qQ (fun _=>s) 0
theorem adU (e:Nat):gJ (kn e):=by
 intro ts c q h;unfold kn at h;split at h
 ·cases h
 ·exact fw (oM e zX ts) (fun _=>qQ (fun _=>2) 0) c q h
theorem Zc (e:Nat):gJ (nO e):=fun ts=>fw (oM e [58] ts) fun _ a=>fw (adU e a) fun t b=>fw (Ny e b) fun _=>qQ (fun l=>(t,l)) _
theorem XO (e:Nat):gJ (gY e):=fun ts=>fw (uk e ts) fun s a=>fw (Zc e a) fun _=>qQ (fun k:Int×List Po=>(⟨s,k.1,k.2⟩:cV)) _
theorem aoD (e:Nat):gJ (vO e):=fun ts=>fw (oM e nl ts) fun _ a=>fw (uk e a) fun s b=>fw (oM e [59] b) fun _=>qQ (fun _=>s) 0
theorem aqs (e:Nat):gJ (vS e):=fun ts=>fw (oM e oG ts) fun _ a=>fw (uk e a) fun s b=>fw (uk e b) fun t c=>fw (oM e [59] c) fun _=>qQ (fun _=>(s,t)) 0
theorem aoJ (e:Nat):gJ (td e):=fun ts=>fw (XO e ts.tail) fun q a=>fw (oM e [59] a) fun _=>qQ (fun _=>(⟨(nx ts).2.1,q.name,(nx ts).2.2==mN,q.type,q.eo⟩:ii)) 0
theorem apm {S:List Tok->aA aV}(hS:gJ S):∀m acc,gJ (io e S m acc):=by
 intro m;induction m with
 | zero=>
  intro acc ts c q h;unfold io at h;split at h
  ·cases h
  ·cases h;exact .inr rfl
 | succ m a=>
  intro acc ts c q h;unfold io at h;split at h
  ·cases h
  ·exact fw (hS ts) (fun s=>a (acc++[s])) c q h
theorem apK (e:Nat):gJ (pS e):=by
 intro ts c q h;unfold pS at h;split at h
 ·exact fw (Ny e ts) (fun _=>qQ (fun l=>(ap,l)) _) c q h
 ·cases h
theorem aeG {B:List Tok->aA (List aV)}(g:gJ B):gJ (fd e B):=by
 intro ts c q h;unfold fd at h;split at h
 ·exact fw (Dl e 12 ts.tail) (fun x d=>fw (g d) fun a f c q h=>by
   split at h
   ·exact fw (g f.tail) (fun _=>qQ (fun b=>aV.mk 3 (nx ts).2.1 (ba []) (ba []) ak [] x a b) _) c q h
   ·cases h) c q h
 split at h
 ·exact fw (Dl e 12 ts.tail) (fun x d=>fw (g d) fun a=>qQ (fun a=>aV.mk 4 (nx ts).2.1 (ba []) (ba []) ak [] x a []) a) c q h
 split at h
 ·exact fw (uk e ts.tail) (fun _ d=>fw (apK e d) fun _ f=>fw (oM e [61] f) fun _ i=>fw (Dl e 12 i) fun _=>GE e _) c q h
 split at h
 ·exact fw (uk e ts.tail) (fun _ d=>fw (Dl e 12 d) fun _=>GE e _) c q h
 split at h
 ·exact fw (uk e ts.tail) (fun _ d=>fw (uk e d) fun _=>GE e _) c q h
 split at h
 ·exact fw (uk e ts.tail) (fun s d=>fw (fun c q h=>fw (O5 (Dl e 12) d) (fun _=>qQ (fun a=>Tr.mk 4 (bI e ts.tail) 0 0 s [] a) _) c q h) fun _=>GE e _) c q h
 split at h
 ·exact fw (Dl e 12 ts.tail) (fun _=>GE e _) c q h
 ·exact fw (uk e ts) (fun _ d=>fw (oM e [61] d) fun _ f=>fw (Dl e 12 f) fun _=>GE e _) c q h
theorem apt (e:Nat):∀k,gJ (block e k):=by
 intro k;induction k with
 | zero=>exact fun ts=>fw (oM e [123] ts) fun _ r c q h=>by cases h;exact .inr rfl
 | succ k a=>exact fun ts=>fw (oM e [123] ts) fun _=>apm (aeG a) 20 []
theorem agq (e:Nat):gJ (vu e):=fun ts=>fw (oM e yf ts) fun p a=>fw (uk e a) fun s d=>fw (O5 (XO e) d) fun q g=>fw (fun c q h=>by
 unfold vn at h;split at h
 ·exact fw (Zc e g) (fun _=>qQ (fun k:Int×List Po=>(⟨ba [],k.1,k.2⟩:cV)) _) c q h
 ·cases h) fun t l=>fw (fun c q h=>by
 unfold vQ at h;split at h
 ·exact Ny e _ c q h
 ·cases h) fun b m=>fw (fun c q h=>by
 unfold vM at h;split at h
 ·exact RH (uk e) _ c q h
 ·cases h) fun f i=>fw (apt e 12 i) fun _=>qQ (fun j=>(⟨p,s,q,t,b,f,j⟩:dV)) _
theorem Nn {b:Type}{l:List b}{P:List Tok->aA b}(d:gJ P):gJ (fT e m l P):=by
 intro ts c q h;unfold fT at h;split at h
 ·cases h;exact .inr rfl
 ·exact fw (d ts) (fun _=>qQ (fun a=>l++[a]) _) c q h
theorem ahq (e:Nat)(p:bL):gJ (js e p):=by
 intro ts c q h;unfold js at h;split at h
 ·exact fw (Nn (aoD e) ts) (fun _=>qQ (fun l=>{p with dl:=l}) _) c q h
 split at h
 ·exact fw (Nn (aqs e) ts) (fun _=>qQ (fun l=>{p with cZ:=l}) _) c q h
 split at h
 ·exact fw (Nn (aoJ e) ts) (fun _=>qQ (fun l=>{p with bz:=l}) _) c q h
 split at h
 ·exact fw (Nn (agq e) ts) (fun _=>qQ (fun l=>{p with procs:=l}) _) c q h
 ·cases h;exact .inl rfl
theorem Xt (e:Nat):gJ (vt e):=by
 have b:∀f p,gJ (jq e f p):=by
  intro f;induction f with
  | zero=>intro p ts c q h;cases h
  | succ f d=>
   intro p ts c q h;unfold jq at h;split at h
   ·cases h
   ·exact fw (ahq e p ts) (fun a=>d a) c q h
 exact fun ts=>b _ _ ts
end ag
open ag (Tok Po Tr nx bI aO ba aA)
theorem ack:Gs:=fun s n w a h=>strconv_Atoi s n w a h
def ag.CI (l:Lu):aA Tr:=(ag.CE l).bind fun t _=>if ag.dZ 12 t=ap then .ok t [] else .no 2 0
theorem XI {a:aA Tr}(d:Bl w wz)(b:wz.heap[w.heap.size]? =Z (M ZE 48))(hf:wz.heap[w.heap.size+1]? =Z (M #[A I c,A I (q:Int)] 30))
 (e:R[2]? =Z (aB (Z (Y w.heap.size 0 U)))) (f:R[3]? =Z (aB (Z (Y (w.heap.size+1) 0 U)))) (g:a=.no c q):
 bodyPost prog f15 (Az w a) .ret {tmps:=R,defers:=[]} wz:=by
 unfold ZE at b;obtain⟨⟨h,i,j,k,l,m,n⟩,_⟩:=fa b;have o:=cl hf 0 rfl;have p:=cl hf 1 rfl;exact bodyPost_ret (v:=.tuple #[.agg ZE,.agg #[A I c,A I (q:Int)]]) (by simp[results,results15,go_sem,e,f,h,i,j,k,l,m,n,o,p,ZE]) rfl ⟨d,.inr ⟨c,q,g,rfl⟩⟩
theorem ahi {h:aA Tr}{t:Tr}{z0 z1 z2 a:Int}{c:Bt}{d:Oa}{e d5:Nat}{f:Oa}{g d6:Nat}(i:Bl w wz)(j:wz.heap[w.heap.size]? =Z (M #[A I z0,A I z1,A I z2,A I a,H c,O d e d5,O f g d6] 48))(hf:wz.heap[w.heap.size+1]? =Z (M #[A I 0,A I 0] 30))
 (k:R[2]? =Z (aB (Z (Y w.heap.size 0 U)))) (l:R[3]? =Z (aB (Z (Y (w.heap.size+1) 0 U)))) (m:h=.ok t []) (n:aS wz (fun b=>w.heap.size<=b) t [A I z0,A I z1,A I z2,A I a,H c,O d e d5,O f g d6]):
 bodyPost prog f15 (Az w h) .ret {tmps:=R,defers:=[]} wz.drew:=by
 obtain⟨⟨o,p,q,r,s,u,x⟩,_⟩:=fa j;have y:=cl hf 0 rfl;have z:=cl hf 1 rfl;exact bodyPost_ret (v:=.tuple #[.agg #[A I z0,A I z1,A I z2,A I a,H c,O d e d5,O f g d6],.agg #[A I 0,A I 0]]) (by simp[results,results15,go_sem,k,l,o,p,q,r,s,u,x,y,z]) rfl ⟨i.drew,.inl ⟨t,m,_,_,_,_,_,_,_,_,_,_,_,rfl,n.keeps ⟨Nat.le_refl _,fun _ _ _=>rfl⟩⟩⟩
theorem ahj {a:aA Tr}(b:Bl w wz)(d:wz.heap[w.heap.size]? =Z (M ZE 48))(hf:wz.heap[w.heap.size+1]? =Z (M #[A I c,A I (q:Int)] 30))
 (e:R[2]? =Z (aB (Z (Y w.heap.size 0 U)))) (f:R[3]? =Z (aB (Z (Y (w.heap.size+1) 0 U)))) (g:a=.no c q):
 bodyPost prog f15 (Az w a) .ret {tmps:=R,defers:=[]} wz.drew:=XI (wz:=wz.drew) b.drew d hf e f g
theorem ahv (s:Bt)(w:au)(hs:s.size<=maxLen)(hl:gU w w.heap.size):
 aC prog 15 #[H s] w (Az w (ag.CI s.data.toList)):=by
 obtain⟨w0,p⟩:=nm ((w.alloc (M ZE 48)).alloc (M #[A I 0,A I 0] 30));have Q:=lU p;have fE:=Ax p;have bU:=ab p;have rR:=ac p;have R:=adF (fun rb e=>abp ack) s w0 hs ((hl.keeps Q.size fun b C=>Q.block b C).mono (by omega));have HL:ah (∀ad,Bl w ad->gU ad w.heap.size):=fun ad hV=>hl.keeps hV.size fun b C=>hV.block b C;have HB:=am Q;have S:=am (aj bU rR);have HZ:=am fE;unfold ZE at p;clear hl Q bU rR fE;go_enter func15,ntmps15;go_wp2_with fail;rw[<-p];clear p;refine R.mono ?_;rintro x E ⟨i,⟨t,r,z0,z1,z2,z3,z4,z5,m5,d5,z6,m6,d6,rfl,F⟩|⟨c,q,r,rfl⟩⟩
 ·have T:=HZ.out;have V:=i.size;have k:=(i.block _ (by omega)).trans S.1;have l:=(i.block _ (by omega)).trans S.2;have v:=HB.trans (i.mono (by omega));obtain⟨W2,f⟩:=nm ((E.alloc (M #[A I z0,A I z1,A I z2,A I z3,H z4,O z5 m5 d5,O z6 m6 d6] 48)).alloc (M #[A I 0,A I 0] 30));have j:=lU f;have W:=v.trans (j.mono (by omega));have X:=(F.keeps (aP.bm j));have CP:=Ax f;have jG:=aaZ X ((HL.out _ W).mono (by omega));have y:=ab f;have z:=ac f;have tk:=am X;have B:=am W;have m:=am (aj ((j.block _ (J k)).trans k) ((j.block _ (J l)).trans l));have n:=am (aj y z);have Hi:w.heap.size+2<=E.heap.size:=(by omega);have mq:ah (ag.CI s.data.toList=if ag.dZ 12 t=ap then .ok t [] else .no 2 0):=(by show _=_;unfold ag.CI;rw[r];rfl);cases hq:ag.dZ 12 t with
  | true=>
   rw[hq] at jG mq;have pi:=am mq.out;clear hq F X y z W j v k l i R r CP V T;go_wp2_with fail;rw[<-f];clear f;refine jG.mono ?_;rintro x W3 ⟨rfl,d⟩;have G:=B.trans (d.mono B.size);have a:=ku d m.1;have g:=ku d m.2;have h:=ku d n.1;have u:=ku d n.2;have K:=am (aj a g);have zK:=am G;have DF:=am (tk.keeps (aP.bm d));have n1:=J a;have n2:=J g;have n3:=J h;have n4:=J u;unfold ZE at a;obtain⟨⟨r0,r1,r2,r3,r4,r5,r6⟩,p0,p1,p2,p3,p4,p5,p6⟩:=fa a;obtain⟨⟨x0,x1,x2,x3,x4,x5,x6⟩,_⟩:=fa h;obtain⟨⟨g0,g1⟩,f0,f1⟩:=xJ g;obtain⟨y0,y1⟩:=qw u;clear d G a g h u;go_wp2;go_region;all_goals (try go_wp2)
   have o:=K.1;unfold ZE at o;obtain⟨L,N,P,k4⟩:=Lq (a0:=A I z0) (a1:=A I z1) (a2:=A I z2) (a3:=A I z3) (a4:=H z4) (a5:=O z5 m5 d5) (a6:=O z6 m6 d6) (b0:=A I 0) (b1:=A I 0) o K.2 zK.out;have ZF:=HZ.out;have F:=(DF.keeps ⟨by simp[World.setCell],fun b C _=>k4 b (by omega) (by omega)⟩).mono (S':=fun b=>w.heap.size<=b) fun b C _=>(by omega);refine ahi L N P ?_ ?_ pi.out F
   ·rfl
   ·rfl
  | false=>
   rw[hq] at jG mq;have qH:=am mq.out;clear hq F X y z W j v k l i R r CP V T;go_wp2_with fail;rw[<-f];clear f;refine jG.mono ?_;rintro x W3 ⟨rfl,d⟩;have G:=B.trans (d.mono B.size);have a:=ku d m.1;have g:=ku d m.2;have h:=ku d n.1;have u:=ku d n.2;have K:=am (aj a g);have zK:=am G;have DF:=am (tk.keeps (aP.bm d));have n1:=J a;have n2:=J g;have n3:=J h;have n4:=J u;unfold ZE at a;obtain⟨⟨r0,r1,r2,r3,r4,r5,r6⟩,p0,p1,p2,p3,p4,p5,p6⟩:=fa a;obtain⟨⟨x0,x1,x2,x3,x4,x5,x6⟩,_⟩:=fa h;obtain⟨⟨g0,g1⟩,f0,f1⟩:=xJ g;obtain⟨y0,y1⟩:=qw u;clear d G a g h u;go_wp2;have o:=K.1;unfold ZE at o;obtain⟨L,N,P,k4⟩:=Lq (a0:=A I 0) (a1:=A I 0) (a2:=A I 0) (a3:=A I 0) (a4:=H ⟨#[]⟩) (a5:=O U 0 0) (a6:=O U 0 0) (b0:=A I 2) (b1:=A I 0) o K.2 zK.out;refine XI (c:=2) (q:=0) L ?_ P ?_ ?_ qH.out
   ·exact N
   ·rfl
   ·rfl
 ·have T:=HZ.out;have V:=i.size;have k:=(i.block _ (by omega)).trans S.1;have l:=(i.block _ (by omega)).trans S.2;have v:=HB.trans (i.mono (by omega));have eD:=ag.Qt (fun e=>ag.Dl e 12) _ r;have bc:(c==0)=ak:=(by simp[eD]);have qH:ah (ag.CI s.data.toList=.no c q):=(by show _=_;unfold ag.CI;rw[r];rfl);obtain⟨W2,f⟩:=nm ((E.alloc (M ZE 48)).alloc (M #[A I c,A I (q:Int)] 30));have j:=lU f;have m:=am (aj ((j.block _ (J k)).trans k) ((j.block _ (J l)).trans l));have B:=am (v.trans (j.mono (by omega)));have y:=ab f;have z:=ac f;have n:=am (aj y z);have AE:ah (W2=(E.alloc (M #[A I 0,A I 0,A I 0,A I 0,H ⟨#[]⟩,O U 0 0,O U 0 0] 48)).alloc (M #[A I c,A I (q:Int)] 30)):=f;have Hi:w.heap.size+2<=E.heap.size:=(by omega);clear i k l v eD j f r T V y z R;unfold ZE;go_wp2;rw[<-AE.out];have a:=m.1;have g:=m.2;have h:=n.1;have n1:=J a;have n2:=J g;have n3:=J h;have n4:=J n.2;unfold ZE at a h;obtain⟨⟨r0,r1,r2,r3,r4,r5,r6⟩,p0,p1,p2,p3,p4,p5,p6⟩:=fa a;obtain⟨⟨x0,x1,x2,x3,x4,x5,x6⟩,_⟩:=fa h;obtain⟨⟨g0,g1⟩,f0,f1⟩:=xJ g;obtain⟨y0,y1⟩:=qw n.2;have o:=a;have LP:=am o;clear a g h o;go_region;all_goals (try go_wp2)
  obtain⟨L,N,P,k4⟩:=Lq (a0:=A I 0) (a1:=A I 0) (a2:=A I 0) (a3:=A I 0) (a4:=H ⟨#[]⟩) (a5:=O U 0 0) (a6:=O U 0 0) (b0:=A I c) (b1:=A I (q:Int)) LP.out m.2 B.out;refine ahj L ?_ P ?_ ?_ qH.out
  ·exact N
  ·rfl
  ·rfl
open ag (aV cV ii dV bL Tok Po Tr nx bI aO ba aA)
noncomputable def ag.vw (l:Lu):aA bL:=(ag.qN l).bind fun t _=>if dB (uZ t)=ap then .ok t [] else .no 2 0
theorem aaF {a:aA bL}(d:Bl w wz)(b:wz.heap[w.heap.size]? =Z (M ZG 27))(hf:wz.heap[w.heap.size+1]? =Z (M #[A I c,A I (q:Int)] 30))
 (e:R[2]? =Z (aB (Z (Y w.heap.size 0 U)))) (f:R[3]? =Z (aB (Z (Y (w.heap.size+1) 0 U)))) (g:a=.no c q):
 bodyPost prog f4 (qL w a) .ret {tmps:=R,defers:=[]} wz:=by
 unfold ZG at b;obtain⟨⟨h,i,j,k⟩,_⟩:=kM b;have l:=cl hf 0 rfl;have m:=cl hf 1 rfl;exact bodyPost_ret (v:=.tuple #[.agg ZG,.agg #[A I c,A I (q:Int)]]) (by simp[results,results4,go_sem,e,f,h,i,j,k,l,m,ZG]) rfl ⟨d,.inr ⟨c,q,g,rfl⟩⟩
theorem alW {a:aA bL}(c:Bl w wz)(d:wz.heap[w.heap.size]? =Z (M #[O z K d0,O G C d1,O F m2 d2,O L E d3] 27))(hf:wz.heap[w.heap.size+1]? =Z (M #[A I 0,A I 0] 30))
 (e:R[2]? =Z (aB (Z (Y w.heap.size 0 U)))) (f:R[3]? =Z (aB (Z (Y (w.heap.size+1) 0 U)))) (g:a=.ok t []) (h:jj wz (fun b=>w.heap.size<=b) t [O z K d0,O G C d1,O F m2 d2,O L E d3]):
 bodyPost prog f4 (qL w a) .ret {tmps:=R,defers:=[]} wz.drew:=by
 obtain⟨⟨i,j,k,l⟩,_⟩:=kM d;have m:=cl hf 0 rfl;have n:=cl hf 1 rfl;exact bodyPost_ret (v:=.tuple #[.agg #[O z K d0,O G C d1,O F m2 d2,O L E d3],.agg #[A I 0,A I 0]]) (by simp[results,results4,go_sem,e,f,i,j,k,l,m,n]) rfl ⟨c.drew,.inl ⟨t,g,_,_,_,_,_,_,_,_,_,_,_,_,rfl,h.keeps ⟨Nat.le_refl _,fun _ _ _=>rfl⟩⟩⟩
theorem alX {a:aA bL}(b:Bl w wz)(d:wz.heap[w.heap.size]? =Z (M ZG 27))(hf:wz.heap[w.heap.size+1]? =Z (M #[A I c,A I (q:Int)] 30))
 (e:R[2]? =Z (aB (Z (Y w.heap.size 0 U)))) (f:R[3]? =Z (aB (Z (Y (w.heap.size+1) 0 U)))) (g:a=.no c q):
 bodyPost prog f4 (qL w a) .ret {tmps:=R,defers:=[]} wz.drew:=aaF (wz:=wz.drew) b.drew d hf e f g
theorem ahu (s:Bt)(w:au)(hs:s.size<=maxLen)(hl:gU w w.heap.size):
 aC prog 4 #[H s] w (qL w (ag.vw s.data.toList)):=by
 obtain⟨w0,y⟩:=nm ((w.alloc (M ZG 27)).alloc (M #[A I 0,A I 0] 30));have cw:=lU y;have fE:=Ax y;have bU:=ab y;have rR:=ac y;have um:=adE (fun rb e w ts v h=>age ack h) s w0 hs ((hl.keeps cw.size fun b S=>cw.block b S).mono (by omega));have HL:ah (∀ad,Bl w ad->gU ad w.heap.size):=fun ad hV=>hl.keeps hV.size fun b S=>hV.block b S;have HB:=am cw;have HR:=am (aj bU rR);have HZ:=am fE;unfold ZG at y;clear hl cw bU rR fE;go_enter func4,ntmps4;go_wp2_with fail;rw[<-y];clear y;refine um.mono ?_;rintro x T ⟨j,⟨t,l,z,K,d0,G,C,d1,F,m2,d2,L,E,d3,rfl,V⟩|⟨c,q,l,rfl⟩⟩
 ·have cL:=HZ.out;have bZ:=j.size;have m:=(j.block _ (by omega)).trans HR.1;have n:=(j.block _ (by omega)).trans HR.2;have N:=HB.trans (j.mono (by omega));obtain⟨W2,f⟩:=nm ((T.alloc (M #[O z K d0,O G C d1,O F m2 d2,O L E d3] 27)).alloc (M #[A I 0,A I 0] 30));have k:=lU f;have qp:=N.trans (k.mono (by omega));have iK:=(V.keeps (aP.bm k));have CP:=Ax f;have o:=aoF iK (ag.Xj l) ((HL.out _ qp).mono (by omega));have P:=ab f;have Q:=ac f;have tk:=am iK;have R:=am qp;have p:=am (aj ((k.block _ (J m)).trans m) ((k.block _ (J n)).trans n));have r:=am (aj P Q);have Hi:w.heap.size+2<=T.heap.size:=(by omega);have mq:ah (ag.vw s.data.toList=if dB (uZ t)=ap then .ok t [] else .no 2 0):=(by show _=_;unfold ag.vw;rw[l];rfl);cases hq:dB (uZ t) with
  | true=>
   unfold We at o;rw[hq] at o mq;simp only[if_true] at o;have pi:=am mq.out;clear hq V iK P Q qp k N m n j um l CP bZ cL;go_wp2_with fail;rw[<-f];clear f;refine o.mono ?_;rintro x W3 ⟨rfl,d⟩;have W:=R.trans (d.mono R.size);have a:=ku d p.1;have g:=ku d p.2;have i:=ku d r.1;have B:=ku d r.2;have X:=am (aj a g);have zK:=am W;have DF:=am (tk.keeps (aP.bm d));have n1:=J a;have n2:=J g;have n3:=J i;have n4:=J B;unfold ZG at a;obtain⟨⟨r0,r1,r2,r3⟩,p0,p1,p2,p3⟩:=kM a;obtain⟨⟨x0,x1,x2,x3⟩,_⟩:=kM i;obtain⟨⟨g0,g1⟩,f0,f1⟩:=xJ g;obtain⟨y0,y1⟩:=qw B;clear d W a g i B;go_wp2;go_region;all_goals (try go_wp2)
   have u:=X.1;unfold ZG at u;obtain⟨k1,k2,k3,k4⟩:=xH (a0:=O z K d0) (a1:=O G C d1) (a2:=O F m2 d2) (a3:=O L E d3) (b0:=A I 0) (b1:=A I 0) u X.2 zK.out;have ZF:=HZ.out;have V:=(DF.keeps ⟨by simp[World.setCell],fun b S _=>k4 b (by omega) (by omega)⟩).mono (S':=fun b=>w.heap.size<=b) fun b S _=>(by omega);refine alW k1 k2 k3 ?_ ?_ pi.out V
   ·rfl
   ·rfl
  | false=>
   unfold We at o;rw[hq] at o mq;simp only[Bool.false_eq_true,if_false] at o;have qH:=am mq.out;clear hq V iK P Q qp k N m n j um l CP bZ cL;go_wp2_with fail;rw[<-f];clear f;refine o.mono ?_;rintro x W3 ⟨rfl,d⟩;have W:=R.trans (d.mono R.size);have a:=ku d p.1;have g:=ku d p.2;have i:=ku d r.1;have B:=ku d r.2;have X:=am (aj a g);have zK:=am W;have DF:=am (tk.keeps (aP.bm d));have n1:=J a;have n2:=J g;have n3:=J i;have n4:=J B;unfold ZG at a;obtain⟨⟨r0,r1,r2,r3⟩,p0,p1,p2,p3⟩:=kM a;obtain⟨⟨x0,x1,x2,x3⟩,_⟩:=kM i;obtain⟨⟨g0,g1⟩,f0,f1⟩:=xJ g;obtain⟨y0,y1⟩:=qw B;clear d W a g i B;go_wp2;have u:=X.1;unfold ZG at u;obtain⟨k1,k2,k3,k4⟩:=xH (a0:=O U 0 0) (a1:=O U 0 0) (a2:=O U 0 0) (a3:=O U 0 0) (b0:=A I 2) (b1:=A I 0) u X.2 zK.out;refine aaF (c:=2) (q:=0) k1 ?_ k3 ?_ ?_ qH.out
   ·exact k2
   ·rfl
   ·rfl
 ·have cL:=HZ.out;have bZ:=j.size;have m:=(j.block _ (by omega)).trans HR.1;have n:=(j.block _ (by omega)).trans HR.2;have N:=HB.trans (j.mono (by omega));have eD:=ag.Qt ag.Xt _ l;have bc:(c==0)=ak:=(by simp[eD]);have qH:ah (ag.vw s.data.toList=.no c q):=(by show _=_;unfold ag.vw;rw[l];rfl);obtain⟨W2,f⟩:=nm ((T.alloc (M ZG 27)).alloc (M #[A I c,A I (q:Int)] 30));have k:=lU f;have p:=am (aj ((k.block _ (J m)).trans m) ((k.block _ (J n)).trans n));have R:=am (N.trans (k.mono (by omega)));have P:=ab f;have Q:=ac f;have r:=am (aj P Q);have AE:ah (W2=(T.alloc (M #[O U 0 0,O U 0 0,O U 0 0,O U 0 0] 27)).alloc (M #[A I c,A I (q:Int)] 30)):=f;have Hi:w.heap.size+2<=T.heap.size:=(by omega);clear j m n N eD k f l cL bZ P Q um;unfold ZG;go_wp2;rw[<-AE.out];have a:=p.1;have g:=p.2;have i:=r.1;have n1:=J a;have n2:=J g;have n3:=J i;have n4:=J r.2;unfold ZG at a i;obtain⟨⟨r0,r1,r2,r3⟩,p0,p1,p2,p3⟩:=kM a;obtain⟨⟨x0,x1,x2,x3⟩,_⟩:=kM i;obtain⟨⟨g0,g1⟩,f0,f1⟩:=xJ g;obtain⟨y0,y1⟩:=qw r.2;have u:=a;have LP:=am u;clear a g i u;go_region;all_goals (try go_wp2)
  obtain⟨k1,k2,k3,k4⟩:=xH (a0:=O U 0 0) (a1:=O U 0 0) (a2:=O U 0 0) (a3:=O U 0 0) (b0:=A I c) (b1:=A I (q:Int)) LP.out p.2 R.out;refine alX k1 ?_ k3 ?_ ?_ qH.out
  ·exact k2
  ·rfl
  ·rfl
open ag (aV cV ii dV bL Tok Tr Po aA nx bI aO gg ba)
theorem X5 {a:aA bL}(d:Bl w wz)(b:wz.heap[w.heap.size]? =Z (M ZG 27))(hf:wz.heap[w.heap.size+1]? =Z (M #[A I c,A I (q:Int)] 30))
 (e:R[2]? =Z (aB (Z (Y w.heap.size 0 U)))) (f:R[3]? =Z (aB (Z (Y (w.heap.size+1) 0 U)))) (g:a=.no c q):
 bodyPost prog f5 (qL w a) .ret {tmps:=R,defers:=[]} wz:=by
 unfold ZG at b;obtain⟨⟨h,i,j,k⟩,_⟩:=kM b;have l:=cl hf 0 rfl;have m:=cl hf 1 rfl;exact bodyPost_ret (v:=.tuple #[.agg ZG,.agg #[A I c,A I (q:Int)]]) (by simp[results,results5,go_sem,e,f,h,i,j,k,l,m,ZG]) rfl ⟨d,.inr ⟨c,q,g,rfl⟩⟩
theorem ahV {a:aA bL}(c:Bl w wz)(d:wz.heap[w.heap.size]? =Z (M #[O z K d0,O G C d1,O F m2 d2,O L E d3] 27))(hf:wz.heap[w.heap.size+1]? =Z (M #[A I 0,A I 0] 30))
 (e:R[2]? =Z (aB (Z (Y w.heap.size 0 U)))) (f:R[3]? =Z (aB (Z (Y (w.heap.size+1) 0 U)))) (g:a=.ok t []) (h:jj wz (fun b=>w.heap.size<=b) t [O z K d0,O G C d1,O F m2 d2,O L E d3]):
 bodyPost prog f5 (qL w a) .ret {tmps:=R,defers:=[]} wz.drew:=by
 obtain⟨⟨i,j,k,l⟩,_⟩:=kM d;have m:=cl hf 0 rfl;have n:=cl hf 1 rfl;exact bodyPost_ret (v:=.tuple #[.agg #[O z K d0,O G C d1,O F m2 d2,O L E d3],.agg #[A I 0,A I 0]]) (by simp[results,results5,go_sem,e,f,i,j,k,l,m,n]) rfl ⟨c.drew,.inl ⟨t,g,_,_,_,_,_,_,_,_,_,_,_,_,rfl,h.keeps ⟨Nat.le_refl _,fun _ _ _=>rfl⟩⟩⟩
theorem ahW {a:aA bL}(b:Bl w wz)(d:wz.heap[w.heap.size]? =Z (M ZG 27))(hf:wz.heap[w.heap.size+1]? =Z (M #[A I c,A I (q:Int)] 30))
 (e:R[2]? =Z (aB (Z (Y w.heap.size 0 U)))) (f:R[3]? =Z (aB (Z (Y (w.heap.size+1) 0 U)))) (g:a=.no c q):
 bodyPost prog f5 (qL w a) .ret {tmps:=R,defers:=[]} wz.drew:=X5 (wz:=wz.drew) b.drew d hf e f g
theorem afM (s:Bt)(w:au)(hs:s.size<=140737488351232)(hl:FX w)(Br:II):
 aC prog 5 #[H s] w (qL w (ag.vw s.data.toList)):=by
 obtain⟨w0,r⟩:=nm ((w.alloc (M ZG 27)).alloc (M #[A I 0,A I 0] 30));have cw:=lU r;have fE:=Ax r;have bU:=ab r;have rR:=ac r;have um:=afN s w0 hs (hl.later cw) Br;have HL:=am hl;have HB:=am cw;have HR:=am (aj bU rR);have HZ:=am fE;unfold ZG at r;clear hl cw bU rR fE;go_enter func5,ntmps5;go_wp2_with fail;rw[<-r];clear r;refine um.mono ?_;rintro x P ⟨i,⟨t,k,z,K,d0,G,C,d1,F,m2,d2,L,E,d3,rfl,Q⟩|⟨c,q,k,rfl⟩⟩
 ·have cL:=HZ.out;have bZ:=i.size;have l:=(i.block _ (by omega)).trans HR.1;have m:=(i.block _ (by omega)).trans HR.2;have v:=HB.trans (i.mono (by omega));obtain⟨W2,e⟩:=nm ((P.alloc (M #[O z K d0,O G C d1,O F m2 d2,O L E d3] 27)).alloc (M #[A I 0,A I 0] 30));have j:=lU e;have qp:=v.trans (j.mono (by omega));have iK:=(Q.keeps (aP.bm j));have CP:=Ax e;have jG:=aoz iK (HL.later qp).1 (ag.Xj k) (ag.afK k);have y:=ab e;have B:=ac e;have tk:=am iK;have N:=am qp;have n:=am (aj ((j.block _ (J l)).trans l) ((j.block _ (J m)).trans m));have o:=am (aj y B);have Hi:w.heap.size+2<=P.heap.size:=(by omega);have mq:ah (ag.vw s.data.toList=if dB (uZ t)=ap then .ok t [] else .no 2 0):=(by show _=_;unfold ag.vw;rw[k];rfl);cases hq:dB (uZ t) with
  | true=>
   have R:uZ t:=by
    by_cases h:uZ t
    ·exact h
    ·rw[nF h] at hq;cases hq
   rw[hq] at mq;have pi:=am mq.out;clear hq Q iK y B qp j v l m i um k CP bZ cL;go_wp2_with fail;rw[<-e];clear e;refine jG.mono ?_;rintro x W3 ⟨⟨c,rfl,S⟩,d⟩;obtain rfl:c=0:=S.2 R;clear S R;have T:=N.trans (d.mono N.size);have a:=ku d n.1;have f:=ku d n.2;have g:=ku d o.1;have u:=ku d o.2;have V:=am (aj a f);have zK:=am T;have DF:=am (tk.keeps (aP.bm d));have n1:=J a;have n2:=J f;have n3:=J g;have n4:=J u;unfold ZG at a;obtain⟨⟨r0,r1,r2,r3⟩,p0,p1,p2,p3⟩:=kM a;obtain⟨⟨x0,x1,x2,x3⟩,_⟩:=kM g;obtain⟨⟨g0,g1⟩,f0,f1⟩:=xJ f;obtain⟨y0,y1⟩:=qw u;clear d T a f g u;go_wp2;go_region;all_goals (try go_wp2)
   have p:=V.1;unfold ZG at p;obtain⟨W,X,k3,k4⟩:=xH (a0:=O z K d0) (a1:=O G C d1) (a2:=O F m2 d2) (a3:=O L E d3) (b0:=A I 0) (b1:=A I 0) p V.2 zK.out;have ZF:=HZ.out;have Q:=(DF.keeps ⟨by simp[World.setCell],fun b hb _=>k4 b (by omega) (by omega)⟩).mono (S':=fun b=>w.heap.size<=b) fun b hb _=>(by omega);refine ahV W X k3 ?_ ?_ pi.out Q
   ·rfl
   ·rfl
  | false=>
   have R:¬uZ t:=fun h=>(by rw[nE h] at hq;cases hq);rw[hq] at mq;have qH:=am mq.out;clear hq Q iK y B qp j v l m i um k CP bZ cL;go_wp2_with fail;rw[<-e];clear e;refine jG.mono ?_;rintro x W3 ⟨⟨c,rfl,S⟩,d⟩;have bc:(c==0)=ak:=(by have:c≠0:=fun h=>R (S.1 h);simp[this]);clear S R;have T:=N.trans (d.mono N.size);have a:=ku d n.1;have f:=ku d n.2;have g:=ku d o.1;have u:=ku d o.2;have V:=am (aj a f);have zK:=am T;have DF:=am (tk.keeps (aP.bm d));have n1:=J a;have n2:=J f;have n3:=J g;have n4:=J u;unfold ZG at a;obtain⟨⟨r0,r1,r2,r3⟩,p0,p1,p2,p3⟩:=kM a;obtain⟨⟨x0,x1,x2,x3⟩,_⟩:=kM g;obtain⟨⟨g0,g1⟩,f0,f1⟩:=xJ f;obtain⟨y0,y1⟩:=qw u;clear d T a f g u;go_wp2;have p:=V.1;unfold ZG at p;obtain⟨W,X,k3,k4⟩:=xH (a0:=O U 0 0) (a1:=O U 0 0) (a2:=O U 0 0) (a3:=O U 0 0) (b0:=A I 2) (b1:=A I 0) p V.2 zK.out;refine X5 (c:=2) (q:=0) W ?_ k3 ?_ ?_ qH.out
   ·exact X
   ·rfl
   ·rfl
 ·have cL:=HZ.out;have bZ:=i.size;have l:=(i.block _ (by omega)).trans HR.1;have m:=(i.block _ (by omega)).trans HR.2;have v:=HB.trans (i.mono (by omega));have eD:=ag.Qt ag.Xt _ k;have bc:(c==0)=ak:=(by simp[eD]);have qH:ah (ag.vw s.data.toList=.no c q):=(by show _=_;unfold ag.vw;rw[k];rfl);obtain⟨W2,e⟩:=nm ((P.alloc (M ZG 27)).alloc (M #[A I c,A I (q:Int)] 30));have j:=lU e;have n:=am (aj ((j.block _ (J l)).trans l) ((j.block _ (J m)).trans m));have N:=am (v.trans (j.mono (by omega)));have y:=ab e;have B:=ac e;have o:=am (aj y B);have AE:ah (W2=(P.alloc (M #[O U 0 0,O U 0 0,O U 0 0,O U 0 0] 27)).alloc (M #[A I c,A I (q:Int)] 30)):=e;have Hi:w.heap.size+2<=P.heap.size:=(by omega);clear i l m v eD j e k cL bZ y B um;unfold ZG;go_wp2;rw[<-AE.out];have a:=n.1;have f:=n.2;have g:=o.1;have n1:=J a;have n2:=J f;have n3:=J g;have n4:=J o.2;unfold ZG at a g;obtain⟨⟨r0,r1,r2,r3⟩,p0,p1,p2,p3⟩:=kM a;obtain⟨⟨x0,x1,x2,x3⟩,_⟩:=kM g;obtain⟨⟨g0,g1⟩,f0,f1⟩:=xJ f;obtain⟨y0,y1⟩:=qw o.2;have p:=a;have LP:=am p;clear a f g p;go_region;all_goals (try go_wp2)
  obtain⟨W,X,k3,k4⟩:=xH (a0:=O U 0 0) (a1:=O U 0 0) (a2:=O U 0 0) (a3:=O U 0 0) (b0:=A I c) (b1:=A I (q:Int)) LP.out n.2 N.out;refine ahW W ?_ k3 ?_ ?_ qH.out
  ·exact X
  ·rfl
  ·rfl
section
open Go.RowKit Go.Lib
theorem WX:(prog.info? 155).map (·.size)=Z 2:=by kernel_rfl
theorem ajr:liesAt prog prog.depth 157 (2 / prog.cellsOf 157) 0 155 1=ap:=by kernel_rfl
theorem akS:(prog.info? 5).map (fun i=>(i.zero,i.size,i.bytes))=Z (Z (A .u8 0),1,1):=by kernel_rfl
theorem aoK:prog.cellsOf 5=1:=by kernel_rfl
theorem ady:(157:TypeId)≠5:=by decide
theorem adQ (b:Nat)(w:au)(f:w.cell? (Y b 0 U)=Z (aB U))(a:w.shape? b=Z (157,2))(g:w.frozen? (Y b 0 U)=ak):
 aC prog 182 #[aB (Z (Y b 0 U))] w fun e w'=>e=aE (.tuple #[])/\w'=w.setCell (Y b 0 U) (aB (Z (Y b 0 U))):=by
 obtain⟨j,c,d⟩:=Option.map_eq_some_iff.1 WX;have h:=run_to_unsafe w (Y b 0 U) underlying152 underlying239 c (by rw[d];decide) a (Nat.zero_lt_succ 1);have i:=run_from_unsafe w (Y b 0 U) underlying239 underlying152 c a ajr;clear a d c;go_enter func182,ntmps182;go_wp2;rw[run_callFunc_extern func208 (by kernel_rfl) (by kernel_rfl) (by kernel_rfl) (e:=Extern.AbiNoEscape.same) (by kernel_rfl)];rw[run_noEscape];simp only[Result.andThen];rw[Oper.upon_value];go_wp2
 go_end0
 exact⟨rfl,rfl⟩
theorem adP (b:Nat)(w:au)(d:w.cell? (Y b 0 U)=Z (aB (Z (Y b 0 U)))):
 aC prog 182 #[aB (Z (Y b 0 U))] w fun e w'=>e=aE (.tuple #[])/\w'=w:=by
 obtain⟨j,a,c⟩:=Option.map_eq_some_iff.1 WX;have f:=run_neq_ptr_same w (Y b 0 U) underlying152 a;clear a c;go_enter func182,ntmps182;go_wp2
 go_end0
 exact⟨rfl,rfl⟩
theorem adR (B b:Nat)(a:Lv)(w:au)(h:IsBuilder 157 5 B b a w):
 aC prog 182 #[aB (Z (Y b 0 U))] w fun e w'=>e=aE (.tuple #[])/\BuilderAt 157 5 B b (aB (Z (Y b 0 U))) a w'/\Below B w w'/\OthersKept 5 (Z b) w w':=by
 rcases h with h | h
 ·refine(adQ b w h.cell0 h.shape h.frozen0).mono ?_;rintro e w' ⟨rfl,rfl⟩;exact⟨rfl,h.used _,(aF B w).setCell (p:=(Y b 0 U)) h.1 _,(OthersKept.refl _ _ w).setCell (Y b 0 U) rfl _⟩
 ·refine(adP b w h.cell0).mono ?_;rintro e w' ⟨rfl,rfl⟩;exact⟨rfl,h,aF B _,OthersKept.refl _ _ _⟩
theorem adN (B b:Nat)(a:Lv)(s:Bt)(w:au)(h:IsBuilder 157 5 B b a w)(S:a.length+s.size<=140737488355328)(T:B<=w.heap.size):
 aC prog 135 #[aB (Z (Y b 0 U)),H s] w fun e w'=>e=aE (.tuple #[A I s.size,.nilIface])/\BuilderAt 157 5 B b (aB (Z (Y b 0 U))) (a++strCells s) w'/\Below B w w'/\OthersKept 5 (Z b) w w':=by
 obtain⟨G,t,u,x,y⟩:=info_parts akS;have z:=adR B b a w h;clear h;go_enter func135,ntmps135;go_wp2_with fail;refine z.mono ?_;rintro e K ⟨rfl,L,j,C⟩;obtain⟨E,v,l,m,F⟩:=L;have V:K.cell? (Y b 1 U)=Z v:=(by rw[cell_of_heap l];rfl);have N:=J l;go_wp2_with (at_builtin;refine wpList_append_own_string _ rfl _ _ 153 9 rfl B 5 G underlying153 underlying9 t u x y _ _ _ rfl m s rfl ?W ?X ?c5 ?_);case W=>unfold maxLen;omega
 case X=>omega
 case c5=>have:=j.size;omega
 intro P c q n _;have o:c.heap[b]? =Z (M #[aB (Z (Y b 0 U)),v] 157):=by
  rw[n.block b N (fun e=>F e.symm)];exact l
 have d1:c.cell? (Y b 1 U)=Z v:=(by rw[cell_of_heap o];rfl);have f1:c.frozen? (Y b 1 U)=ak:=frozen_of_heap o 1;obtain⟨f,i,d,rfl⟩:∃f i d,P=O f i d:=by
  rcases q.2 with⟨r,_⟩|⟨g,d,ad,r,_⟩
  ·exact⟨_,_,_,r⟩
  ·exact⟨_,_,_,r⟩
 have Q:ah (BuilderAt 157 5 B b (aB (Z (Y b 0 U))) (a++strCells s) (c.setCell (Y b 1 U) (O f i d))/\Below B w (c.setCell (Y b 1 U) (O f i d))/\OthersKept 5 (Z b) w (c.setCell (Y b 1 U) (O f i d))):=
  ⟨BuilderAt.put E o (bs':=a++strCells s) (by simpa[strCells_length] using q) ady,(j.grown n (by have:=j.size;omega) (fun k R=>(m.lt k R).1)).setCell (p:=(Y b 1 U)) E _,(C.grown n (ownsRowF_kind (World.ownsRowF_of m))).setCell (Y b 1 U) rfl _⟩
 clear q n m l j o C z F t u x y;go_wp2
 go_ret2
 exact⟨rfl,Q.out⟩
theorem adO (B b:Nat)(l:Lu)(w:au)(h:IsBuilder 157 5 B b (Lib.byteCells l) w)(i:l≠[]):
 aC prog 118 #[aB (Z (Y b 0 U))] w fun e w'=>e=aE (H ⟨l.toArray⟩)/\Below B w w':=by
 obtain⟨p,C,v,f,d,m⟩:∃p,BuilderAt 157 5 B b p (Lib.byteCells l) w:=by
  rcases h with h | h
  ·exact⟨_,h⟩
  ·exact⟨_,h⟩
 have n:l.length≠0:=(by simpa using i);rw[Lib.byteCells_length] at d;obtain⟨g,a,c,rfl,o,k,E,q,s,t⟩:∃g a c,v=O (Z (Y g 0 U)) l.length a/\B<=g/\w.heap[g]? =Z (M c 5)/\l.length<=a/\a<=maxLen/\c.size=a*1/\c.toList.take (l.length*1)=Lib.byteCells l:=by
  rcases d.2 with⟨_,u⟩|⟨g,a,c,y,r⟩
  ·exact absurd u n
  ·exact⟨g,a,c,y,r⟩
 have F:w.drew.cell? (Y b 1 U)=Z (O (Z (Y g 0 U)) l.length a):=(by have:w.drew.heap[b]? =Z (M #[p,O (Z (Y g 0 U)) l.length a] 157):=f;rw[cell_of_heap this];rfl);have G:(Builtin.unsafeSliceData_ #[153] 203 #[O (Z (Y g 0 U)) l.length a]).run prog w.drew=.ok (aB (Z (Y g 0 U))) w.drew:=
  run_unsafeSliceData_row _ _ _ _ _ _ (by omega)
 have K:(Builtin.unsafeString_ #[203,3] 9 #[aB (Z (Y g 0 U)),A I l.length]).run prog w.drew=.ok (H ⟨l.toArray⟩) (w.drew.freeze (Y g 0 U) l.length):=(by refine run_unsafeString_row w.drew 203 3 9 5 underlying203 aoK g c.size (by have z:w.drew.heap[g]? =Z (M c 5):=k;simp[World.shape?,z]) l i (by omega) (by unfold maxLen at q;omega) ?_;intro j x hx;have:=d.cells (g:=g) rfl j (A .u8 x.toNat) (by simp[Lib.byteCells,hx]);exact this);have L:=J f;clear h d k t s f m;go_enter func118,ntmps118;go_wp2;go_region;all_goals (try go_wp2)
 all_goals (go_ret;exact⟨rfl,below_freeze (Below.drew (aF B w)) (p:=(Y g 0 U)) o _⟩)
end
namespace ag
def Bd (m:Nat):Nat:=20000*5 ^ m
theorem Qi (m:Nat):Bd (m+1)=5*Bd m:=by unfold Bd;rw[Nat.pow_succ];omega
theorem Qj (m:Nat):20000<=Bd m:=by unfold Bd;have:0<5 ^ m:=Nat.pow_pos (by omega);omega
theorem arJ:Bd 12=4882812500000:=by decide
theorem Pr {l:List Po}(h:mI (.mk k p n X s l a)=ap):
 (k=1/\sL X n=ap/\a=[])\/(k=2/\dG s=ap/\a=[])\/(k=3/\a.length=2/\0<dW s.data.toList)\/(k=3/\a.length=1/\(s.data.toList=[45]\/s.data.toList=[33]))\/(k=4/\dG s=ap/\a.length<=4)\/(k=5/\gp l=ap/\a.length=1):=by
 simp only[mI] at h;split at h
 ·cases h
 split at h
 ·cases h
 split at h
 ·rename_i b;simp only[mr,beq_iff_eq] at h;exact .inl ⟨b,h.1.1,List.length_eq_zero_iff.1 h.2⟩
 split at h
 ·rename_i b;simp only[mr,beq_iff_eq] at h;exact .inr (.inl ⟨b,h.1,List.length_eq_zero_iff.1 h.2⟩)
 split at h
 ·rename_i b;simp only[Bool.or_eq_true,mr,beq_iff_eq,decide_eq_true_eq] at h;rcases h with h | h
  ·exact .inr (.inr (.inl ⟨b,h.1,h.2⟩))
  ·exact .inr (.inr (.inr (.inl ⟨b,h.1,h.2⟩)))
 split at h
 ·rename_i b;simp only[mr,decide_eq_true_eq] at h;exact .inr (.inr (.inr (.inr (.inl ⟨b,h.1,h.2⟩))))
 split at h
 ·rename_i b;simp only[mr,beq_iff_eq] at h;exact .inr (.inr (.inr (.inr (.inr ⟨b,h.1.1,h.2⟩))))
 ·cases h
theorem aba {l:List Po}(h:dZ (m+1) (.mk k p n X s l a)=ap):mI (.mk k p n X s l a)=ap/\∀x∈a,dZ m x=ap:=by
 simp only[dZ,mr,Bool.or_eq_true,qf,List.isEmpty_iff] at h;refine⟨h.1,fun x hx=> ?_⟩;rcases h.2 with h2 | h2
 ·rw[h2] at hx;cases hx
 ·exact List.all_eq_true.1 h2.2 x hx
theorem G6 (h:dG s=ap):s.size<=12/\s.data.toList≠[]:=by
 unfold dG Lex.kR at h;simp only[mr,decide_eq_true_eq,Bool.not_eq_true'] at h;refine⟨by have:=h.1.1.1.2;rwa [Lex.df] at this,fun e=> ?_⟩;rw[e] at h;cases h.1.1.1.1
theorem YG {s:Lu}(h:0<dW s):s.length<=2/\s≠[]:=by
 unfold dW at h;split at h
 ·rename_i a;simp at a;subst a;simp
 split at h
 ·rename_i a;simp at a;subst a;simp
 split at h
 ·rename_i a;simp at a;rcases a with rfl | rfl | rfl | rfl | rfl | rfl<;>simp
 split at h
 ·rename_i a;simp at a;rcases a with rfl | rfl<;>simp
 split at h
 ·rename_i a;simp at a;rcases a with rfl | rfl | rfl<;>simp
 ·omega
theorem RM {l:List Po}(h:gp l=ap):(vz l).length<=19000/\rF l=0:=by
 unfold gp at h;simp only[mr,decide_eq_true_eq] at h;refine⟨?_,h.1⟩;have a:=h.1;unfold rF at a;split at a
 ·cases a
 ·rename_i c;have d:l.length<=200:=(by omega);have b:∀p∈l,oO p=ak:=fun p b=>by
   cases hb:oO p with
   | false=>rfl
   | true=>exact absurd (.inr (List.any_eq_true.2 ⟨p,b,hb⟩)) c
  have:=TL b;have:l.length*92<=200*92:=Nat.mul_le_mul_right _ d;have e:(vz l).length=(th l).length+2:=(by unfold vz;simp);omega
theorem X7 {t:Int}(h:sL t n=ap):(yA t n).length<=20/\yA t n≠[]:=by
 unfold sL at h;simp only[Bool.or_eq_true,mr,beq_iff_eq,decide_eq_true_eq] at h;unfold yA;split
 ·split<;>simp
 ·rename_i b;rcases h with h | h
  ·have hn:n=((n.toNat:Nat):Int):=(by omega);have e:Lib.itoa n=Lib.decDigits n.toNat:=(by unfold Lib.itoa;rw[if_neg (by omega)]);rw[e];have a:=Lib.decDigits_length n.toNat;have c:=Lib.nDigits_le20 n.toNat (by omega);have d:=Lib.nDigits_pos n.toNat;exact⟨by omega,fun e=>by rw[e] at a;simp at a;omega⟩
  ·exact absurd h.1 b
theorem MK (b:Bool)(l:Lu):(nk b l).length<=l.length+2:=by
 unfold nk;split<;>simp
theorem WE (m:Nat)(p n X:Int)(s:Bt)(l:List Po)(a:List Tr):el (m+1) (.mk 1 p n X s l a)=yA X n:=rfl
theorem WD (m:Nat)(p n X:Int)(s:Bt)(l:List Po)(a:List Tr):el (m+1) (.mk 2 p n X s l a)=s.data.toList:=rfl
theorem WC (m:Nat)(p n X:Int)(s:Bt)(l:List Po)(x:Tr):el (m+1) (.mk 3 p n X s l [x])=s.data.toList++nk (nN 6 x) (el m x):=rfl
theorem WB (m:Nat)(p n X:Int)(s:Bt)(l:List Po)(x y:Tr):el (m+1) (.mk 3 p n X s l [x,y])=nk (nN (dW s.data.toList) x) (el m x)++(32::(s.data.toList++(32::nk (nN (dW s.data.toList+1) y) (el m y)))):=rfl
theorem WA (m:Nat)(p n X:Int)(s:Bt)(l:List Po)(a:List Tr):el (m+1) (.mk 4 p n X s l a)=s.data.toList++(40::(Lib.join (a.map (el m)) [44,32]++[41])):=rfl
theorem Wz (m:Nat)(p n X:Int)(s:Bt)(l:List Po)(x:Tr):el (m+1) (.mk 5 p n X s l [x])=[114,101,108,101,97,115,101,40]++(el m x++([32,116,111,32]++(vz l++[41]))):=rfl
theorem Ze (h:∀x∈a,(el m x).length<=Bd m):(Lib.join (a.map (el m)) [44,32]).length<=a.length*(Bd m+2):=by
 have:=RP (a.map (el m)) [44,32] (Bd m+2) (fun b c=>by
  obtain⟨x,hx,rfl⟩:=List.mem_map.1 c;have:=h x hx
  simp;omega)
 simpa using this
theorem Nb (h:a.length=1):∃x,a=[x]:=by
 match a,h with
 |[x],_=>exact⟨x,rfl⟩
theorem WG (h:a.length=2):∃x y,a=[x,y]:=by
 match a,h with
 |[x,y],_=>exact⟨x,y,rfl⟩
theorem Jp:∀m t,dZ m t=ap->(el m t).length<=Bd m/\el m t≠[]:=by
 intro m;induction m with
 | zero=>intro t h;cases h
 | succ m d=>
  intro t h;obtain⟨k,p,n,X,s,l,a⟩:=t;obtain⟨o,f⟩:=aba h;have r:=Qi m;have u:=Qj m;rcases Pr o with⟨rfl,hn,rfl⟩|⟨rfl,hn,rfl⟩|⟨rfl,b,i⟩|⟨rfl,b,i⟩|⟨rfl,hn,b⟩|⟨rfl,hn,b⟩
  ·rw[WE];have:=X7 hn;exact⟨by omega,this.2⟩
  ·rw[WD];have:=G6 hn;rw[Lex.df];exact⟨by omega,this.2⟩
  ·obtain⟨x,g,rfl⟩:=WG b;rw[WB];have j:=(d x (f x (by simp))).1;have v:=(d g (f g (by simp))).1;have q:=MK (nN (dW s.data.toList) x) (el m x);have w:=MK (nN (dW s.data.toList+1) g) (el m g);have c:=(YG i).1;refine⟨?_,by simp⟩;rw[iG,iz,iG,iz];omega
  ·obtain⟨x,rfl⟩:=Nb b;rw[WC];have j:=(d x (f x (by simp))).1;have q:=MK (nN 6 x) (el m x);have c:s.data.toList.length=1:=(by rcases i with h | h<;>rw[h]<;>rfl);refine⟨?_,fun e=> ?_⟩
   ·rw[iG];omega
   ·rw[List.append_eq_nil_iff] at e;rw[e.1] at c;cases c
  ·rw[WA];have j:=Ze (m:=m) (a:=a) fun x hx=>(d x (f x hx)).1;have c:=(G6 hn).1;rw[<-Lex.df] at c;have:a.length*(Bd m+2)<=4*(Bd m+2):=Nat.mul_le_mul_right _ b;refine⟨?_,by simp⟩;rw[iG,iz,iG];simp only[iz,List.length_nil];omega
  ·obtain⟨x,rfl⟩:=Nb b;rw[Wz];have j:=(d x (f x (by simp))).1;have c:=(RM hn).1;refine⟨?_,by simp⟩;rw[iG,iG,iG,iG];simp only[iz,List.length_nil];omega
end ag
structure WS (wq wr:au)(wb:Nat)(l:Lu):Prop where
 ff:Bl wq wr
 zm:Lib.IsBuilder 157 5 wq.heap.size wb (Lib.byteCells l) wr
theorem akJ {B:Nat}{c:Lv}{W d:au}(h:Lib.IsBuilder 157 5 B b c W)(a:Bl W d):Lib.IsBuilder 157 5 B b c d:=by
 have one:∀p,Lib.BuilderAt 157 5 B b p c W->Lib.BuilderAt 157 5 B b p c d:=(by intro p h;have e:=h.lt;obtain⟨f,v,g,i,j⟩:=h;exact⟨f,v,(a.block b e).trans g,i.kept (row:=U) ⟨a.os,a.tape,a.output,a.size,fun k l _=>a.block k l⟩ (Classical.em _),j⟩);exact h.elim (fun x=>.inl (one _ x)) (fun x=>.inr (one _ x))
theorem WS.later {w':au}(h:WS N wr Q l)(a:Bl wr w'):WS N w' Q l:=⟨h.ff.trans (a.mono h.ff.size),akJ h.zm a⟩
theorem WS.lt (h:WS N wr Q l):Q<wr.heap.size:=by rcases h.zm with h | h<;>exact h.lt
theorem WS.low (h:WS N wr Q l):N.heap.size<=Q:=by rcases h.zm with h | h<;>exact h.1
theorem WS.str (h:WS N wr Q l)(s:Bt)(d:l.length+s.size<=100000000000000):
 aC prog 135 #[aB (Z (Y Q 0 U)),H s] wr fun e w'=>e=aE (.tuple #[A I s.size,.nilIface])/\WS N w' Q (l++s.data.toList)/\Lib.OthersKept 5 (Z Q) wr w':=by
 refine(adN _ _ _ s _ h.zm (by rw[Lib.byteCells_length];omega) h.ff.size).mono ?_;rintro e w' ⟨rfl,a,b,c⟩;refine⟨rfl,⟨h.ff.trans b,.inr ?_⟩,c⟩;rw[Lib.byteCells_append,<-Lib.strCells_eq];exact a
def BY (wq:au):Prop:=∀(n:Int) (V:au),0<=n->n<=999999999->Bl wq V->aC prog 203 #[A I n] V fun x w'=>x=aE (H ⟨(Lib.itoa n).toArray⟩)/\Bl V w'
theorem amQ (b:Bool)(w:au):aC prog 223 #[az b] w fun x w'=>x=aE (H ⟨(if b then[116,114,117,101] else[102,97,108,115,101]:Lu).toArray⟩)/\w'=w:=by
 cases b<;>
 ·go_enter func223,ntmps223;go_wp2;go_ret;exact⟨rfl,rfl⟩
theorem fmtC (b:Bool)(w:au):aC prog 202 #[az b] w fun x w'=>x=aE (H ⟨(if b then[116,114,117,101] else[102,97,108,115,101]:Lu).toArray⟩)/\w'=w:=by
 have h:=amQ b w;obtain⟨s,a⟩:∃s:Bt,s=⟨(if b then[116,114,117,101] else[102,97,108,115,101]:Lu).toArray⟩:=⟨_,rfl⟩;rw[<-a] at h⊢;clear a;go_enter func202,ntmps202;go_wp2_with fail;refine h.mono ?_;rintro x w' ⟨rfl,c⟩;have d:=c.symm;subst d;go_wp2;go_ret;exact⟨rfl,rfl⟩
theorem ahX (g:BY N)(i:Bl N w)(h:ag.sL X n=ap):aC prog 164 #[A I X,A I n] w fun x w'=>x=aE (H ⟨(ag.yA X n).toArray⟩)/\Bl w w':=by
 by_cases b:X=2
 ·subst b;have d:=fmtC (n==1) w;have e:ag.yA 2 n=(if(n==1)=ap then[116,114,117,101] else[102,97,108,115,101]):=by
   unfold ag.yA;rw[if_pos rfl];by_cases hn:n=1<;>simp[hn]
  rw[e];obtain⟨s,a⟩:∃s:Bt,s=⟨(if(n==1)=ap then[116,114,117,101] else[102,97,108,115,101]:Lu).toArray⟩:=⟨_,rfl⟩;rw[<-a] at d⊢;clear a e h;go_enter func164,ntmps164;go_wp2_with fail;refine d.mono ?_;rintro x w' ⟨rfl,c⟩;have j:=c.symm;subst j;go_wp2;go_ret;exact⟨rfl,aF _ _⟩
 ·have k:(X==2)=ak:=(by simp[b]);have hn:0<=n/\n<=999999999:=(by unfold ag.sL at h;simp only[k,Bool.false_and,Bool.or_false,mr,decide_eq_true_eq] at h;exact h.2);have f:=g n w hn.1 hn.2 i;have e:ag.yA X n=Lib.itoa n:=(by unfold ag.yA;rw[if_neg b]);rw[e];obtain⟨s,a⟩:∃s:Bt,s=⟨(Lib.itoa n).toArray⟩:=⟨_,rfl⟩;rw[<-a] at f⊢;clear a e h b hn;go_enter func164,ntmps164;go_wp2_with fail;refine f.mono ?_;rintro x w' ⟨rfl,c⟩;go_wp2;go_ret;exact⟨rfl,c⟩
theorem akq {v:Value}{l:List Po}(h:dw w S v l)(e:ag.gp l=ap):aC prog 167 #[v] w fun x w'=>x=aE (H ⟨(vz l).toArray⟩)/\Bl w w':=by
 obtain⟨i,b,j,c,rfl,m,hm,f⟩:=h.sD;have a:=Xw i b j l.length c l w f;have d:=(ag.RM e).2;have ev:EF l=⟨(vz l).toArray⟩:=(by unfold EF;rw[d];rfl);rw[d,ev] at a;obtain⟨s,g⟩:∃s:Bt,s=⟨(vz l).toArray⟩:=⟨_,rfl⟩;rw[<-g] at a⊢;clear g ev d f h e;go_enter func167,ntmps167;go_wp2_with fail;refine a.mono ?_;rintro x w' ⟨rfl,k⟩;go_wp2;go_ret;exact⟨rfl,k⟩
def nY (l:List Bt):Lu:=(l.map (·.data.toList)).flatten
theorem amT (l:List Bt)(s:Bt):nY (l++[s])=nY l++s.data.toList:=by simp[nY]
theorem amU {ls:List Bt}(k:Nat):(nY (ls.take k)).length<=(nY ls).length:=by
 have e:nY ls=nY (ls.take k)++nY (ls.drop k):=(by unfold nY;rw[<-List.flatten_append,<-List.map_append,List.take_append_drop]);rw[e,iG];omega
theorem bsize (s:Bt):s.data.toList.length=s.size:=Lex.df s
theorem Rb {a n:Nat}(ls:List Bt)(c:Av)(hn:n=ls.length)(hm:n<=100)(g:∀k (h:k<ls.length),c[k]? =Z (H ls[k]))(h:WS N w Q l)(j:w.heap[a]? =Z (M c 9))(t:a≠Q)(m:l.length+(nY ls).length<=100000000000000):
 aC prog 166 #[aB (Z (Y Q 0 U)),O (Z (Y a 0 U)) n n] w fun x w'=>x=aE (.tuple #[])/\WS N w' Q (l++nY ls):=by
 have o:=am hn;have u:=am g;have v:=am h;have y:=am j;have z:=am m;clear hn g h j m;go_enter func166,ntmps166;go_wp2;go_loopw [8] (fun i wz=>∃k:Nat,k<=n/\i=A I k/\ah (WS N wz Q (l++nY (ls.take k))/\wz.heap[a]? =Z (M c 9))) (fun i _=>n - (intOf i).toNat);case atStart=>exact⟨0,eJ _,rfl,by show _/\_;simpa[nY] using⟨v.out,y.out⟩⟩
 case round=>
  obtain⟨k,K,rfl,b⟩:=hrel;by_cases L:k<n
  ·have p:k<ls.length:=(by have:=o.out;omega);have P:=J b.2;have c0:wr.cell? (Y a k U)=Z (H ls[k]):=(by simp only[aN,b.2];exact u.out k p);have d:(nY (ls.take (k+1)))=nY (ls.take k)++ls[k].data.toList:=(by rw[List.take_succ_eq_append_getElem p,amT]);have e:=amU (ls:=ls) (k+1);have B:=bsize ls[k]
   have f:=b.1.str ls[k] (by
    have:=z.out;rw[d] at e;simp only[iG] at e⊢
    omega)
   have C:=am d;obtain⟨x,hx⟩:=nm (ls[k]);have E:=am hx;rw[<-hx] at c0 f;clear d e B hx;go_wp2_with fail;refine f.mono ?_;rintro R q ⟨rfl,r,s⟩;have F:ah (WS N q Q (l++nY (ls.take (k+1)))/\q.heap[a]? =Z (M c 9)):=⟨by rw[C.out,<-List.append_assoc,<-E.out];exact r,s _ _ b.2 (by simp[t]) (by simp)⟩;clear r s f;go_wp2;go_roundw;case rel=>exact⟨k+1,by omega,by go_num,F⟩
   case measure=>simp[intOf];omega
  ·have G:ah (WS N wr Q (l++nY ls)):=(by have:=b.1;rwa [List.take_of_length_le (by have:=o.out;omega)] at this);go_wp2
   go_end0
   exact⟨rfl,G.out⟩
end Go.Proofs.YtoiiahpdbcokaaaGreatDoor
