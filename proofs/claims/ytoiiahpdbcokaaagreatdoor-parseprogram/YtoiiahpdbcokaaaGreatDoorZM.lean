/- The document's Deep, FormExpr and IsFormed. And more of the same. -/
import Derived.Test.YtoiiahpdbcokaaaGreatDoorZL
import Derived.LaidEql
import Derived.Laws.StructEq
import Derived.MapKept
import Derived.WideKeyRuns
import Derived.Carry
namespace Go.Proofs.YtoiiahpdbcokaaaGreatDoor
open Go.Value renaming int -> A, slice -> O, string -> H, pointer -> aB, bool -> az
open Go.IntKind renaming i64 -> I
open _root_.Option renaming none -> U, some -> Z
open Go.Addr renaming mk -> Y
open Go.Obj renaming cells -> M
open Go renaming lt_of_block -> J, World -> au, Value -> aw, Calls -> aC
open _root_.Nat renaming le_refl -> aD, zero_le -> eJ, lt_of_lt_of_le -> gD, le_trans -> fC
open Go.Ending renaming returned -> aE
open Go.RowKit.Below renaming refl -> aF
open Go.World renaming cell?_of_block -> en
open _root_.Bool renaming false -> ak, true -> ap, and_eq_true -> mr
open _root_.List renaming getElem_mem -> fD
open Go.RowKit renaming Hid -> ah
open _root_.Go.Proofs.Tryz
set_option maxRecDepth 100000
set_option maxHeartbeats 8000000
open Go.RowKit
open ag (Tr Po ba)
variable {a:List Tr} {t:Tr} {k p:Int} {B B2 b Q d e m n off:Nat} {o s:Bt} {l:List Po} {W w w' X wr:au} {S S':Np} {R V:Lv} {v N G:aw}
def Wd (t:Tr):Prop:=∀(w:au) (S:Np) (ca:Lv),aS w S t ca->ag.gI t<=100000->aC prog 157 #[.agg ca.toArray] w fun e w'=>e=aE (A I (ag.gI t:Int))/\Bl w w'
theorem aoe {j:Nat}(h:j<a.length):ag.jy (a.take (j+1))=max (ag.jy (a.take j)) (ag.gI a[j]):=by
 rw[List.take_succ_eq_append_getElem h,ag.abC]
theorem aoc (F:∀i (h:i<(ag.qf t).length),Wd (ag.qf t)[i]):Wd t:=by
 intro w S R ha hd;cases ha with
 | @mk k p n G s l a lv av af hs o hr c ot=>
 simp only[ag.qf] at F;obtain⟨ao,ab,bC,ac,rfl,r⟩:=hr;obtain⟨m,hm⟩:=nm a.length;have lj:m<=maxLen:=(by rw[hm,<-c];exact fC r.cap r.mx);obtain⟨u,v,x,rfl⟩:∃u v x,lv=O u v x:=(by obtain⟨_,_,_,_,h,_⟩:=o.sD;exact⟨_,_,_,h⟩);rw[c,<-hm];obtain⟨wz,y⟩:=nm (w.alloc (M #[A I k,A I p,A I n,A I G,H s,O u v x,O ao m ac] 48));have kZ:=am y;have cM:=eS y;have o7:ah (wz.heap[w.heap.size]? =Z (M #[A I k,A I p,A I n,A I G,H s,O u v x,O ao m ac] 48)):=by
  show _=_;rw[y];exact cu _ _ _ rfl
 have z:=am cM;have HK:=am F;have K:=am r;have qI:=am ot;have HM:=am hm;have lW:=am c;have L:ah (ag.jy a<=99999):=(by show _<=_;have h9:ag.jy a+1<=100000:=hd;omega);obtain⟨dd,N⟩:=nm (ag.gI (.mk k p n G s l a));rw[<-N];have ad:ah (dd=ag.jy a+1):=N;unfold maxLen at lj;clear F ot o hm r c hs cM y hd N;go_enter func157,ntmps157;obtain⟨⟨z0,z1,z2,z3,z4,z5,z6⟩,_⟩:=fa o7.out;have Ae:=J o7.out;go_upto_region 1 with fail
 rw[<-kZ.out];go_wp2;go_loopw [9,3] (fun i q wr=>∃j:Nat,j<=m/\i=A I j/\q=A I (ag.jy (a.take j):Int)/\ah (Bl wz wr)) (fun i _ _=>m - (intOf i).toNat);case atStart=>exact⟨0,eJ _,rfl,rfl,aF _ _⟩
 case round=>
  obtain⟨j,hj,rfl,rfl,B⟩:=hrel;have lw:=B.size;by_cases aK:j<m
  ·have g:j<a.length:=(by have:=HM.out;omega);have fg:j<af.length:=(by rw[lW.out];exact g);obtain rfl:=K.dR (by omega);have C:=qI.out j g fg;have d:=fun i ai=>K.cell j fg i ai;have f:=K.lt (by omega);obtain⟨x0,x1,x2,x3,x4,x5,jT,j7,x6,oL,oV,hx⟩:=Ep C;rw[hx] at C d;have E:=z.trans (B.mono z.size);obtain⟨c,_⟩:=oX E;have p0:wr.cell? (Y ab (bC+j*7) U)=Z (A I x0):=(c _ _ f).trans (d 0 _ rfl);have p1:=(c _ _ f).trans (d 1 _ rfl);have p2:=(c _ _ f).trans (d 2 _ rfl);have p3:=(c _ _ f).trans (d 3 _ rfl);have p4:=(c _ _ f).trans (d 4 _ rfl);have p5:=(c _ _ f).trans (d 5 _ rfl);have p6:=(c _ _ f).trans (d 6 _ rfl);obtain⟨wy,P⟩:=nm (wr.alloc (M #[A I x0,A I x1,A I x2,A I x3,H x4,O x5 jT j7,O x6 oL oV] 48));have Q:=eS P;have T:=bu E Q;have ar:=fC (ag.Pd.1 (aD _) _ (fD g)) L.out;have V:=HK.out j g wy (fun b=>S b/\b<w.heap.size) _ (aS.keeps (C.mono fun b W o=>⟨W,o⟩) ⟨T.size,fun b W _=>T.block b W.2⟩) (by omega);have Gm:=am (B.trans (Q.mono lw));have tj:=am P;have lr:ab<wr.heap.size:=(by have:=E.size;omega);have X:=am (aoe g);obtain⟨dj,ae⟩:=nm (ag.gI a[j]);obtain⟨dk,Sv⟩:=nm (ag.jy (a.take j));rw[<-ae] at V X;rw[<-Sv] at X;rw[<-Sv];clear C d hx c Q T E P ar ae Sv;go_wp2_with fail;rw[<-tj.out];refine V.mono ?_;rintro e w2 ⟨rfl,aT⟩;have kB:=bt Gm aT;clear aT V;go_wp2;go_roundw;case rel=>
    refine⟨j+1,by omega,by go_num,?_,kB⟩;rw[X.out]
    congr 1
    omega
   case measure=>simp[intOf];omega
  ·obtain rfl:j=m:=(by omega);have xq:a.take j=a:=List.take_of_length_le (by have:=HM.out;omega);rw[xq];obtain⟨da,vI⟩:=nm (ag.jy a);rw[<-vI] at ad L⊢;have ax:=L.out;clear vI xq;go_wp2;go_ret;refine⟨?_,z.trans (B.mono z.size)⟩;rw[ad.out];go_num
theorem aog:∀(m:Nat) (t:Tr),ag.gI t<=m->Wd t:=by
 intro m;induction m with
 | zero=>intro t h;have:=ag.Do t;omega
 | succ m b=>
  intro t h;obtain⟨k,p,n,d,s,l,a⟩:=t;exact aoc fun i c=>b _ (Pc h i c)
theorem Pr {n t:Int}(h:ag.mI (.mk k p n t s l a)=ap):
 (k=1/\l.length=0/\a.length=0/\s.data.toList=[]/\((t=1/\0<=n/\n<=999999999)\/(t=2/\0<=n/\n<=1)))\/(k=2/\n=0/\t=0/\l.length=0/\a.length=0/\ag.dG s=ap)\/
 (k=3/\n=0/\t=0/\l.length=0/\((a.length=2/\0<ag.dW s.data.toList)\/(a.length=1/\(s.data.toList=[45]\/s.data.toList=[33]))))\/
 (k=4/\n=0/\t=0/\l.length=0/\a.length<=4/\ag.dG s=ap)\/(k=5/\n=0/\t=0/\a.length=1/\s.data.toList=[]/\ag.gp l=ap):=by
 dsimp only[ag.mI] at h;split at h
 ·cases h
 rename_i f;split at h
 ·cases h
 rename_i e;split at h
 ·rename_i b;left;simp only[mr,beq_iff_eq] at h;obtain⟨⟨g,i⟩,j⟩:=h;refine⟨b,?_,j,i,?_⟩
  ·apply Classical.byContradiction;intro d;exact e ⟨by omega,by omega⟩
  ·unfold ag.sL at g;simp only[Bool.or_eq_true,mr,beq_iff_eq,decide_eq_true_eq] at g;omega
 have c:n=0/\t=0:=by
  rename_i b;constructor
  ·apply Classical.byContradiction;intro d;exact f ⟨b,.inl d⟩
  ·apply Classical.byContradiction;intro d;exact f ⟨b,.inr d⟩
 split at h
 ·rename_i b;simp only[mr,beq_iff_eq] at h;exact .inr (.inl ⟨b,c.1,c.2,(by apply Classical.byContradiction;intro d;exact e ⟨by omega,by omega⟩),h.2,h.1⟩)
 split at h
 ·rename_i b;simp only[Bool.or_eq_true,mr,beq_iff_eq,decide_eq_true_eq] at h;exact .inr (.inr (.inl ⟨b,c.1,c.2,(by apply Classical.byContradiction;intro d;exact e ⟨by omega,by omega⟩),h⟩))
 split at h
 ·rename_i b;simp only[mr,decide_eq_true_eq] at h;exact .inr (.inr (.inr (.inl ⟨b,c.1,c.2,(by apply Classical.byContradiction;intro d;exact e ⟨by omega,by omega⟩),h.2,h.1⟩)))
 split at h
 ·rename_i b;simp only[mr,beq_iff_eq] at h;exact .inr (.inr (.inr (.inr ⟨b,c.1,c.2,h.2,h.1.2,h.1.1⟩)))
 ·cases h
def Wb (t:Tr):Prop:=∀(w:au) (S:Np) (ca:Lv),aS w S t ca->xP w->ag.s9 t=ap->aC prog 158 #[.agg ca.toArray] w fun e w'=>e=aE (az ap)/\Bl w w'
theorem amK (hk:∀i (h:i<(ag.qf t).length),Wb (ag.qf t)[i]):Wb t:=by
 intro w S R ha ad hf;cases ha with
 | @mk k p n ty s l a lv av ae hs G hr o ot=>
 simp only[ag.qf] at hk;obtain⟨ao,ab,bC,ac,rfl,eh⟩:=hr;obtain⟨m,hm⟩:=nm a.length;have lj:m<=maxLen:=(by rw[hm,<-o];exact fC eh.cap eh.mx);have lQ:(ag.mI (.mk k p n ty s l a) && ag.FG a)=ap:=hf;rw[mr,ag.Tl,List.all_eq_true] at lQ;obtain⟨lo,lc,rfl⟩:∃lo lc,lv=O lo l.length lc:=(by obtain⟨_,_,_,_,h,_⟩:=G.sD;exact⟨_,_,h⟩);obtain⟨K,jO⟩:=nm l.length;have Mi:=am G;have uR:=am jO;rw[o,<-hm,<-jO];obtain⟨wz,bB⟩:=nm (w.alloc (M #[A I k,A I p,A I n,A I ty,H s,O lo K lc,O ao m ac] 48));have kZ:=am bB;have cM:=eS bB;have o7:ah (wz.heap[w.heap.size]? =Z (M #[A I k,A I p,A I n,A I ty,H s,O lo K lc,O ao m ac] 48)):=by
  show _=_;rw[bB];exact cu _ _ _ rfl
 have c:=am cM;have HK:=am hk;have HA:=am eh;have qI:=am ot;have L:=am hm;have lW:=am o;have af:=am lQ.1;have ai:=am lQ.2;have HX:=am ad;have HS:=am hs;have T:ah (∀w',Bl wz w'->w.heap.size<w'.heap.size/\w'.cell? (Y w.heap.size 0 U)=Z (A I k)/\w'.cell? (Y w.heap.size 2 U)=Z (A I n)/\w'.cell? (Y w.heap.size 3 U)=Z (A I ty)/\w'.cell? (Y w.heap.size 4 U)=Z (H s)/\w'.cell? (Y w.heap.size 5 U)=Z (O lo K lc)/\w'.cell? (Y w.heap.size 6 U)=Z (O ao m ac)):=(by intro w' nA;have h9:=(nA.block _ (J o7)).trans o7;obtain⟨⟨y0,y1,y2,y3,y4,y5,y6⟩,_⟩:=fa h9;exact⟨J h9,y0,y2,y3,y4,y5,y6⟩);unfold maxLen at lj;clear hk ot G hm eh o hs cM bB hf lQ ad jO;go_enter func158,ntmps158;obtain⟨lz,u,v,x,y,z,B⟩:=T.out wz (aF _ _);go_upto_region 1 with fail
 rw[<-kZ.out];go_wp2;go_loopw [10] (fun i wr=>∃j:Nat,j<=m/\i=A I j/\ah (Bl wz wr)) (fun i _=>m - (intOf i).toNat);case atStart=>exact⟨0,eJ _,rfl,aF _ _⟩
 case round=>
  obtain⟨j,hj,rfl,q⟩:=hrel;have V:=q.size;clear u v x y z B;by_cases aK:j<m
  ·have dp:j<a.length:=(by have:=L.out;omega);have fg:j<ae.length:=(by rw[lW.out];exact dp);obtain rfl:=HA.dR (by omega);have h1:=qI.out j dp fg;have C:=fun i ar=>HA.cell j fg i ar;have N:=HA.lt (by omega);obtain⟨x0,x1,x2,x3,x4,x5,jT,j7,x6,oL,oV,hx⟩:=Ep h1;rw[hx] at h1 C;have fI:=c.trans (q.mono c.size);obtain⟨o,_⟩:=oX fI;have p0:wr.cell? (Y ab (bC+j*7) U)=Z (A I x0):=(o _ _ N).trans (C 0 _ rfl);have p1:=(o _ _ N).trans (C 1 _ rfl);have p2:=(o _ _ N).trans (C 2 _ rfl);have p3:=(o _ _ N).trans (C 3 _ rfl);have p4:=(o _ _ N).trans (C 4 _ rfl);have p5:=(o _ _ N).trans (C 5 _ rfl);have p6:=(o _ _ N).trans (C 6 _ rfl);obtain⟨wy,fZ⟩:=nm (wr.alloc (M #[A I x0,A I x1,A I x2,A I x3,H x4,O x5 jT j7,O x6 oL oV] 48));have ib:=eS fZ;have d:=bu fI ib;have f:=HK.out j dp wy (fun b=>S b/\b<w.heap.size) _ (aS.keeps (h1.mono fun b hb G=>⟨hb,G⟩) ⟨d.size,fun b hb _=>d.block b hb.2⟩) (HX.later d) (ai.out _ (fD dp));have Gm:=am (q.trans (ib.mono V));have tj:=am fZ;have lr:ab<wr.heap.size:=(by have:=fI.size;omega);clear h1 C hx o ib d fI fZ;go_wp2_with fail;rw[<-tj.out];refine f.mono ?_;rintro e E ⟨rfl,aT⟩;have g:=bt Gm aT;clear aT f;go_wp2;go_roundw;case rel=>exact⟨j+1,by omega,by go_num,g⟩
   case measure=>simp[intOf];omega
  ·obtain rfl:j=m:=(by omega);have uU:=bt c q;have W:=af.out;obtain⟨P,u,v,x,y,z,B⟩:=T.out wr q;rcases Pr W with⟨rfl,r,KZ,fE,xp⟩|⟨rfl,rfl,rfl,r,KZ,ew⟩|⟨rfl,rfl,rfl,r,qi⟩|⟨rfl,rfl,rfl,r,BI,ew⟩|⟨rfl,rfl,rfl,X,fE,ef⟩
   ·have qk:j=0:=(by rw[L.out];exact KZ);have Q:K=0:=(by rw[uR.out];exact r);subst qk Q;have he:s.toList.isEmpty=ap:=(by rw[Ts,fE];rfl);have Kr:=@run_makeMap prog;obtain⟨w1,E,r1,r2,d,l1,l2⟩:=aen wr;have g:=am (q.trans (d.mono V));obtain⟨ax,y0,y2,y3,y4,y5,y6⟩:=T.out E g;clear W KZ r fE d;rcases xp with⟨rfl,jE,iq⟩|⟨rfl,jE,iq⟩
    ·have d0:=decide_eq_true jE;have d9:=decide_eq_true iq;clear l2 jE iq;by_cases hq:n=0
     ·subst hq;go_wp2;go_ret;exact⟨rfl,c.trans (g.mono c.size)⟩
     ·have bq:(n==0)=ak:=(by simp[hq]);go_wp2;go_ret;exact⟨rfl,c.trans (g.mono c.size)⟩
    ·have d0:=decide_eq_true jE;have d9:=decide_eq_true iq;clear l1 jE iq;by_cases hq:n=0
     ·subst hq;go_wp2;go_ret;exact⟨rfl,c.trans (g.mono c.size)⟩
     ·have bq:(n==0)=ak:=(by simp[hq]);go_wp2;go_ret;exact⟨rfl,c.trans (g.mono c.size)⟩
   ·have qk:j=0:=(by rw[L.out];exact KZ);have Q:K=0:=(by rw[uR.out];exact r);subst qk Q;have f:=tL (s:=s) (HX.later uU) HS;rw[ew] at f;clear W KZ r ew;go_wp2_with fail;refine f.mono ?_;rintro e E ⟨rfl,d⟩;have g:=am (q.trans (d.mono V));clear d f u v x y z B P;obtain⟨P,u,v,x,y,z,B⟩:=T.out E g;go_wp2;go_ret;exact⟨rfl,c.trans (g.mono c.size)⟩
   ·have Q:K=0:=(by rw[uR.out];exact r);subst Q;clear W r;rcases qi with⟨BJ,er⟩|⟨X,F⟩
    ·have yP:j=2:=(by rw[L.out];exact BJ);subst yP;have f:=RI s HS wr;rw[Lex.jU] at f;obtain⟨mb,e1⟩:=nm (ag.dW s.data.toList);rw[<-e1] at f er;have d0:decide ((0:Int)<(mb:Int))=ap:=(by simp;omega);clear e1 BJ;go_wp2_with fail;refine f.mono ?_;rintro e E ⟨rfl,d⟩;have g:=am (q.trans (d.mono V));clear d f u v x y z B P;obtain⟨P,u,v,x,y,z,B⟩:=T.out E g;go_wp2;go_ret;exact⟨rfl,c.trans (g.mono c.size)⟩
    ·have C1:j=1:=(by rw[L.out];exact X);subst C1;rcases F with F | F
     ·have e1:(s.toList==[45])=ap:=(by rw[Lex.jU,F];rfl);have e2:(s.toList==[33])=ak:=(by rw[Lex.jU,F];rfl);clear F X;go_wp2;go_ret;exact⟨rfl,c.trans (q.mono c.size)⟩
     ·have e2:(s.toList==[33])=ap:=(by rw[Lex.jU,F];rfl);clear F X;go_wp2;go_ret;exact⟨rfl,c.trans (q.mono c.size)⟩
   ·have Q:K=0:=(by rw[uR.out];exact r);subst Q;have ay:j<=4:=(by rw[L.out];exact BI);have d4:decide ((j:Int)<=4)=ap:=(by simp;omega);have f:=tL (s:=s) (HX.later uU) HS;rw[ew] at f;clear W BI r ew;go_wp2_with fail;refine f.mono ?_;rintro e E ⟨rfl,d⟩;have g:=am (q.trans (d.mono V));clear d f u v x y z B P;obtain⟨P,u,v,x,y,z,B⟩:=T.out E g;go_wp2;go_ret;exact⟨rfl,c.trans (g.mono c.size)⟩
   ·have C1:j=1:=(by rw[L.out];exact X);subst C1;have he:s.toList.isEmpty=ap:=(by rw[Ts,fE];rfl);have f:=xG (HX.later uU) ((Mi.mono fun b _ G=>G).keeps ⟨uU.size,fun b hb _=>uU.block b hb⟩) ef;rw[<-uR.out] at f;clear W X fE ef;go_wp2_with fail;refine f.mono ?_;rintro e E ⟨rfl,d⟩;have g:=am (q.trans (d.mono V));clear d f u v x y z B P;go_wp2;go_ret;exact⟨rfl,c.trans (g.mono c.size)⟩
theorem amL:∀(m:Nat) (t:Tr),ag.gI t<=m->Wb t:=by
 intro m;induction m with
 | zero=>intro t h;have:=ag.Do t;omega
 | succ m b=>
  intro t h;obtain⟨k,p,n,d,s,l,a⟩:=t;exact amK fun i c=>b _ (Pc h i c)
theorem Hg (i:aS w S t R)(hx:xP w)(q:ag.gI t<=100000)(hf:ag.s9 t=ap):aC prog 112 #[.agg R.toArray] w fun e w'=>e=aE (az (ag.dZ 12 t))/\Bl w w':=by
 have s:ag.dZ 12 t=decide (ag.gI t<=12):=(by rw[Bool.eq_iff_iff,ag.amO,decide_eq_true_eq];exact⟨fun h=>h.1,fun h=>⟨h,hf⟩⟩);rw[s];obtain⟨u,v,x,y,z,B,C,E,F,G,K,rfl⟩:=Ep i;obtain⟨L,c⟩:=nm (w.alloc (M #[A I u,A I v,A I x,A I y,H z,O B C E,O F G K] 48));have j:=eS c;have N:=aa c;have P:ah (∀w',Bl w w'->aS w' (fun b=>S b/\b<w.heap.size) t [A I u,A I v,A I x,A I y,H z,O B C E,O F G K]):=fun w' d=>aS.keeps (i.mono fun b d hl=>⟨d,hl⟩) ⟨d.size,fun b hq _=>d.block b hq.2⟩;have k:=aog _ t (aD _) L _ _ (P.out L j) q;have Q:=am N;have kZ:=am c;have dt:=am j;have HX:=am hx;have HF:=am hf;obtain⟨a,T⟩:=nm (ag.gI t);rw[<-T] at k⊢;obtain⟨r,l⟩:=nm (decide (a<=12));rw[<-l];have f:=am l;clear l i j c N hx hf s q T;go_enter func112,ntmps112;go_wp2_with fail;rw[<-kZ.out];refine k.mono ?_;rintro e V ⟨rfl,m⟩;have g:=bt dt m;have n:=(m.block _ (J Q)).trans Q;obtain⟨⟨z0,z1,z2,z3,z4,z5,z6⟩,_⟩:=fa n;have lz:=J n;clear m k n;by_cases o:a<=12
 ·have d1:decide ((a:Int)<=12)=ap:=(by simp;omega);have d2:decide (a<=12)=ap:=(by simp[o]);have W:=amL _ t (aD _) V _ _ (P.out V g) (HX.later g) HF;have p:ah (r=ap):=(by show _=_;rw[f.out,d2]);clear o d2 f;go_wp2_with fail;refine W.mono ?_;rintro e w3 ⟨rfl,X⟩;have kC:=bt g X;clear X W;go_wp2;go_ret;exact⟨by rw[p.out];rfl,kC.out⟩
 ·have d1:decide ((a:Int)<=12)=ak:=(by simp;omega);have d2:decide (a<=12)=ak:=(by simp;omega);have p:ah (r=ak):=(by show _=_;rw[f.out,d2]);clear o d2 f;go_wp2;go_ret;exact⟨by rw[p.out];rfl,g.out⟩
abbrev PK:=Nat×Nat×Nat×Nat
def gS (p:PK):aw:=.agg #[aB (Z (Y p.1 p.2.1 U)),A I (p.2.2.1:Int),A I (p.2.2.2:Int)]
def j8 (w:au)(b:Nat):Prop:=∃cs e,w.heap[b]? =Z (M cs e)
theorem agb:(prog.info? 48).map (·.size)=Z 7:=by kernel_rfl
theorem ahb:(prog.fieldsOf 232).toList.map (fun f=>(f.name,f.type,f.offset))=[("first",116,0),("n",3,1),("deep",3,2)]:=by kernel_rfl
theorem agV:(match prog.underlying 232 with | some (.array _ _)| some (.struct _)=>ap | _=>ak)=ap:=by kernel_rfl
theorem agX:prog.underlying 232=Z (.struct (prog.fieldsOf 232)):=by kernel_rfl
theorem agZ:prog.stoodInHeld 232=ak:=by kernel_rfl
theorem XH (a:Bool)(p:PK)(w:au):(Instr.checkKey a 10000 232 (gS p)).run prog w=.ok () w:=by unfold gS;kernel_rfl
theorem ahs (x y a:aw)(w:au):(part 116 #[x,y,a] 0).run prog w=.ok x w:=by kernel_rfl
theorem XL (x y a:aw)(w:au):(part 3 #[x,y,a] 1).run prog w=.ok y w:=by kernel_rfl
theorem XK (x y a:aw)(w:au):(part 3 #[x,y,a] 2).run prog w=.ok a w:=by kernel_rfl
theorem anu (d:Nat)(a b:Addr)(w:au):(Op.equalIn (d+1) 116 (aB (Z a)) (aB (Z b))).run prog w=(sameAddr a b).run prog w:=by
 have c:=agb;cases hi:prog.info? 48 with
 | none=>rw[hi] at c;simp at c
 | some i=>
  rw[hi] at c;have e:i.size=7:=(by simpa using c);simp[Op.equalIn,run_underlying underlying116,sizeOf,typeInfo,hi,e]
theorem anw (w:au)(p q:PK)(k:j8 w p.1)(l:j8 w q.1):(Op.equal 232 (gS p) (gS q)).run prog w=.ok (decide (p=q)) w:=by
 obtain⟨V,e,k⟩:=k;obtain⟨F,G,l⟩:=l;have t:(sameAddr (Y p.1 p.2.1 U) (Y q.1 q.2.1 U)).run prog w=.ok (decide ((p.1,p.2.1)=(q.1,q.2.1))) w:=by
  by_cases h:(p.1,p.2.1)=(q.1,q.2.1)
  ·simp only[Prod.mk.injEq] at h;rw[h.1,h.2];rw[run_sameAddr_same];simp
  ·rw[run_sameAddr_other w (fun m=>h (by simp only[Addr.mk.injEq,and_true] at m;rw[m.1,m.2])) k l];simp[h]
 obtain⟨a,b,c,d⟩:=p;obtain⟨f,g,i,j⟩:=q;have hf:=ahb;unfold gS;show(Op.equalIn (9999+1) _ _ _).run _ _=_;rw[run_equalIn_struct w 9999 _ _ _ agX agZ]
 match hm:(prog.fieldsOf 232).toList with
 |[]=>rw[hm] at hf;simp at hf
 |[_]=>rw[hm] at hf;simp at hf
 |[_,_]=>rw[hm] at hf;simp at hf
 | f0::f1::f2::f3::_=>rw[hm] at hf;simp at hf
 |[f0,f1,f2]=>
  rw[hm] at hf;simp only[List.map_cons,List.map_nil,List.cons.injEq,Prod.mk.injEq,and_true] at hf;obtain⟨⟨n0,t0,u⟩,⟨v,t1,x⟩,y,t2,z⟩:=hf;have B:=anu 9998 (Y a b U) (Y f g U) w;have C:=run_equalIn_int (P:=prog) w 9998 3 I I (c:Int) (i:Int) underlying3;have E:=run_equalIn_int (P:=prog) w 9998 3 I I (d:Int) (j:Int) underlying3;simp only[Op.eqFields,n0,v,y,t0,t1,t2,u,x,z,ne_eq,String.reduceEq,not_false_eq_true,if_true,Sem.run_bind,ahs,XL,XK,Result.andThen_ok,B,t,C,E,Sem.run_ite,Sem.run_pure];by_cases n:(a,b)=(f,g)
  ·simp only[Prod.mk.injEq] at n;obtain⟨rfl,rfl⟩:=n;by_cases o:c=i
   ·subst o;by_cases r:d=j
    ·subst r;simp
    ·have:¬((d:Int)=j):=(by omega);simp[r,this]
   ·have:¬((c:Int)=i):=(by omega);simp[o,this]
  ·have s:¬(a=f/\b=g):=(by simpa using n);have:¬((a,b,c,d)=(f,g,i,j)):=(by intro e;simp only[Prod.mk.injEq] at e;exact s ⟨e.1,e.2.1⟩);simp[s,this]
theorem anb (w:au)(p:PK)(k:j8 w p.1):∀(a:List MapEntry) (K:List PK) (i:Nat),a.map (·.key)=K.map gS->(∀q∈K,j8 w q.1)->
 (p ∉ K/\(Instr.findAsking 232 (gS p) a i).run prog w=.ok U w)\/(p∈K/\∃j e,a[j]? =Z e/\e.key=gS p/\(Instr.findAsking 232 (gS p) a i).run prog w=.ok (Z (i+j,e.val)) w):=by
 intro a;induction a with
 | nil=>
  intro K i b _;have:K=[]:=(by simpa using b.symm);subst this;exact .inl ⟨by simp,by simp[Instr.findAsking]⟩
 | cons e a l=>
  intro K i b g;cases K with
  | nil=>simp at b
  | cons q K=>
   simp only[List.map_cons,List.cons.injEq] at b;have c:=anw w p q k (g q (by simp));rw[<-b.1] at c;by_cases h:p=q
   ·subst h;refine .inr ⟨by simp,0,e,rfl,b.1,?_⟩;simp[Instr.findAsking,c]
   ·rcases l K (i+1) b.2 (fun q m=>g q (by simp[m])) with⟨d,f⟩|⟨d,j,n,f,o,r⟩
    ·exact .inl ⟨by simp[h,d],by simp[Instr.findAsking,c,h,f]⟩
    ·refine .inr ⟨by simp[d],j+1,n,by simpa using f,o,?_⟩;simp[Instr.findAsking,c,h,r];omega
structure AC (w:au)(B:Nat)(L:List (PK×aw)):Prop where
 ex:∃es clock,w.heap[B]? =Z (.map es clock)/\es.toList.map (fun e=>(e.key,e.val))=L.map (fun p=>(gS p.1,p.2))
 Q9:∀p∈L,j8 w p.1.1
theorem AC.lt {a:List (PK×aw)}(h:AC w B a):B<w.heap.size:=by
 obtain⟨d,c,b,_⟩:=h.ex;exact J b
theorem j8.keeps (h:j8 w b)(a:w'.heap[b]? =w.heap[b]?):j8 w' b:=by
 obtain⟨V,e,h⟩:=h;exact⟨V,e,a.trans h⟩
theorem AC.made (w:au):AC (w.alloc (.map #[] 0)) w.heap.size []:=⟨⟨#[],0,cu _ _ _ rfl,rfl⟩,fun p a=>by simp at a⟩
theorem Zf {a:Array MapEntry}{b:List (PK×aw)}(h:a.toList.map (fun e=>(e.key,e.val))=b.map (fun p=>(gS p.1,p.2))):a.toList.map (·.key)=(b.map (·.1)).map gS:=by
 have:=congrArg (List.map Prod.fst) h;simpa[List.map_map,Function.comp_def] using this
theorem AC.find {b:List (PK×aw)}(h:AC w B b){a:Array MapEntry}(d:w.heap[B]? =Z (.map a Q))(p:PK)(f:j8 w p.1):
 (p ∉ b.map (·.1)/\(Instr.findKey 232 (gS p) a.toList).run prog w=.ok U w)\/(p∈b.map (·.1)/\∃j e,a.toList[j]? =Z e/\e.key=gS p/\(Instr.findKey 232 (gS p) a.toList).run prog w=.ok (Z (j,e.val)) w):=by
 obtain⟨k,l,c,g⟩:=h.ex;rw[d] at c;simp only[Option.some.injEq,Obj.map.injEq] at c;obtain⟨rfl,rfl⟩:=c;rw[run_findKey_eq w agV];have:=anb w p f a.toList (b.map (·.1)) 0 (Zf g) (fun q i=>by obtain⟨x,hx,rfl⟩:=List.mem_map.1 i;exact h.Q9 x hx);simpa using this
def bV (w:au)(B:Nat)(K:List PK):Prop:=AC w B (K.map fun p=>(p,.agg #[]))
theorem MZ (K:List PK):(K.map fun p=>(p,Value.agg #[])).map (·.1)=K:=by simp[List.map_map,Function.comp_def]
theorem bV.made (w:au):bV (w.alloc (.map #[] 0)) w.heap.size []:=AC.made w
theorem bV.keeps {K:List PK}(h:bV w B K)(b:w'.heap[B]? =w.heap[B]?)(d:∀p∈K,w'.heap[p.1]? =w.heap[p.1]?):bV w' B K:=by
 obtain⟨⟨e,c,f,g⟩,i⟩:=h;refine⟨⟨e,c,b.trans f,g⟩,fun p a=> ?_⟩;obtain⟨q,j,rfl⟩:=List.mem_map.1 a;exact(i _ a).keeps (d q j)
theorem bV.pl {K:List PK}(h:bV w B K){p:PK}(a:p∈K):j8 w p.1:=h.Q9 (p,.agg #[]) (List.mem_map.2 ⟨p,a,rfl⟩)
theorem Wp (w:au):(zeroValue 212).run prog w=.ok (.agg #[]) w:=by kernel_rfl
theorem bV.val {a:Array MapEntry}{K:List PK}(h:a.toList.map (fun e=>(e.key,e.val))=(K.map fun p=>(p,Value.agg #[])).map (fun p=>(gS p.1,p.2))){e:MapEntry}(c:e∈a.toList):e.val=.agg #[]:=by
 have:(e.key,e.val)∈a.toList.map (fun e=>(e.key,e.val)):=List.mem_map.2 ⟨e,c,rfl⟩;rw[h] at this;obtain⟨q,d,b⟩:=List.mem_map.1 this;obtain⟨r,f,rfl⟩:=List.mem_map.1 d;simp only[Prod.mk.injEq] at b;exact b.2.symm
theorem bV.asks {K:List PK}(h:bV w B K)(p:PK)(d:j8 w p.1):(Instr.lookup 94 (.map (Z B)) (gS p) ap).run prog w=.ok (.tuple #[.agg #[],az (decide (p∈K))]) w:=by
 obtain⟨f,Q,c,g⟩:=h.ex;have hf:=h.find c p d;rw[MZ] at hf;have i:=Wp w;have k:=XH f.isEmpty p w;simp only[Instr.lookup,Sem.run_bind,run_underlying underlying94,Result.andThen_ok,MapKept.run_getObj_map c,Sem.run_pure,k];rcases hf with⟨a,b⟩|⟨a,j,e,b,m,l⟩
 ·simp[b,a,i]
 ·have:=bV.val g (List.mem_of_getElem? b);simp[l,a,this]
theorem Xc (p:PK):Instr.sameBits 10000 (gS p) (gS p)=ap:=by
 unfold gS;simp[Instr.sameBits]
def lD (K:List PK)(p:PK):List PK:=if p∈K then K else K++[p]
theorem vy {K:List PK}{p q:PK}:q∈lD K p↔q∈K\/q=p:=by
 unfold lD;split
 ·rename_i h;constructor
  ·exact .inl
  ·rintro(a | rfl)
   ·exact a
   ·exact h
 ·simp
theorem OS (o:Obj):w.grownBy {w with heap:=w.heap.setIfInBounds B o} (Z B):=
 ⟨rfl,rfl,rfl,by simp,fun b a hn=>by
   have:B≠b:=fun e=>hn (by rw[e])
   simp[this]⟩
theorem bV.put {K:List PK}(h:bV w B K)(p:PK)(k:j8 w p.1):∃w',(Instr.mapUpdate 94 (.map (Z B)) (gS p) (.agg #[])).run prog w=.ok () w'/\bV w' B (lD K p)/\w.grownBy w' (Z B):=by
 obtain⟨d,Q,b,f⟩:=h.ex;have hf:=h.find b p k;rw[MZ] at hf;have m:=XH ak p w;have n:=J b;have hn:∀q:PK,j8 w q.1->B≠q.1:=(by rintro q ⟨V,e,a⟩ rfl;rw[b] at a;cases a);have pl:∀(o:Obj) (q:PK),j8 w q.1->j8 {w with heap:=w.heap.setIfInBounds B o} q.1:=(by intro o q a;have v:=hn q a;refine a.keeps ?_;simp[v]);rcases hf with⟨l,g⟩|⟨l,j,e,g,s,x⟩
 ·refine⟨{w with heap:=w.heap.setIfInBounds B (.map (d.push {key:=gS p,val:=.agg #[],born:=Q}) (Q+1))},?_,⟨⟨d.push {key:=gS p,val:=.agg #[],born:=Q},Q+1,?_,?_⟩,?_⟩,OS _⟩
  ·simp only[Instr.mapUpdate,Sem.run_bind,run_underlying underlying94,Result.andThen_ok,MapKept.run_getObj_map b,m,g,MapKept.run_setObj_map _ b]
  ·simp[n]
  ·simp[lD,l] at f⊢;exact f
  ·intro q a;obtain⟨r,c,rfl⟩:=List.mem_map.1 a;rcases vy.1 c with c | rfl
   ·exact pl _ _ (h.pl c)
   ·exact pl _ _ k
 ·have y:=bV.val f (List.mem_of_getElem? g);have t:d[j]? =Z e:=(by simpa using g);refine⟨{w with heap:=w.heap.setIfInBounds B (.map (d.modify j fun e=>{e with key:=gS p,val:=.agg #[]}) Q)},?_,⟨⟨d.modify j fun e=>{e with key:=gS p,val:=.agg #[]},Q,?_,?_⟩,?_⟩,OS _⟩
  ·simp only[Instr.mapUpdate,Sem.run_bind,run_underlying underlying94,Result.andThen_ok,MapKept.run_getObj_map b,m,x,t,Option.map_some,Option.getD_some,s,Instr.keyThatStays,Xc,if_true,Sem.run_pure,MapKept.run_setObj_map _ b]
  ·simp[n]
  ·have z:lD K p=K:=(by simp[lD,l]);rw[z,<-f];refine List.ext_getElem? fun i=> ?_;simp only[List.getElem?_map,Array.getElem?_toList,Array.getElem?_modify];by_cases u:j=i
   ·subst u;simp[t,s,y]
   ·simp[u]
  ·intro q a;obtain⟨r,c,rfl⟩:=List.mem_map.1 a;rcases vy.1 c with c | rfl
   ·exact pl _ _ (h.pl c)
   ·exact pl _ _ k
theorem aga:(prog.info? 109).map (·.size)=Z 15:=by kernel_rfl
theorem aha:(prog.fieldsOf 210).toList.map (fun f=>(f.name,f.type,f.offset))=[("first",181,0),("n",3,1),("deep",3,2)]:=by kernel_rfl
theorem agU:(match prog.underlying 210 with | some (.array _ _)| some (.struct _)=>ap | _=>ak)=ap:=by kernel_rfl
theorem agW:prog.underlying 210=Z (.struct (prog.fieldsOf 210)):=by kernel_rfl
theorem agY:prog.stoodInHeld 210=ak:=by kernel_rfl
theorem XG (a:Bool)(p:PK)(w:au):(Instr.checkKey a 10000 210 (gS p)).run prog w=.ok () w:=by unfold gS;kernel_rfl
theorem ahr (x y a:aw)(w:au):(part 181 #[x,y,a] 0).run prog w=.ok x w:=by kernel_rfl
theorem ant (d:Nat)(a b:Addr)(w:au):(Op.equalIn (d+1) 181 (aB (Z a)) (aB (Z b))).run prog w=(sameAddr a b).run prog w:=by
 have c:=aga;cases hi:prog.info? 109 with
 | none=>rw[hi] at c;simp at c
 | some i=>
  rw[hi] at c;have e:i.size=15:=(by simpa using c);simp[Op.equalIn,run_underlying underlying181,sizeOf,typeInfo,hi,e]
theorem anv (w:au)(p q:PK)(k:j8 w p.1)(l:j8 w q.1):(Op.equal 210 (gS p) (gS q)).run prog w=.ok (decide (p=q)) w:=by
 obtain⟨V,e,k⟩:=k;obtain⟨F,G,l⟩:=l;have t:(sameAddr (Y p.1 p.2.1 U) (Y q.1 q.2.1 U)).run prog w=.ok (decide ((p.1,p.2.1)=(q.1,q.2.1))) w:=by
  by_cases h:(p.1,p.2.1)=(q.1,q.2.1)
  ·simp only[Prod.mk.injEq] at h;rw[h.1,h.2];rw[run_sameAddr_same];simp
  ·rw[run_sameAddr_other w (fun m=>h (by simp only[Addr.mk.injEq,and_true] at m;rw[m.1,m.2])) k l];simp[h]
 obtain⟨a,b,c,d⟩:=p;obtain⟨f,g,i,j⟩:=q;have hf:=aha;unfold gS;show(Op.equalIn (9999+1) _ _ _).run _ _=_;rw[run_equalIn_struct w 9999 _ _ _ agW agY]
 match hm:(prog.fieldsOf 210).toList with
 |[]=>rw[hm] at hf;simp at hf
 |[_]=>rw[hm] at hf;simp at hf
 |[_,_]=>rw[hm] at hf;simp at hf
 | f0::f1::f2::f3::_=>rw[hm] at hf;simp at hf
 |[f0,f1,f2]=>
  rw[hm] at hf;simp only[List.map_cons,List.map_nil,List.cons.injEq,Prod.mk.injEq,and_true] at hf;obtain⟨⟨n0,t0,u⟩,⟨v,t1,x⟩,y,t2,z⟩:=hf;have B:=ant 9998 (Y a b U) (Y f g U) w;have C:=run_equalIn_int (P:=prog) w 9998 3 I I (c:Int) (i:Int) underlying3;have E:=run_equalIn_int (P:=prog) w 9998 3 I I (d:Int) (j:Int) underlying3;simp only[Op.eqFields,n0,v,y,t0,t1,t2,u,x,z,ne_eq,String.reduceEq,not_false_eq_true,if_true,Sem.run_bind,ahr,XL,XK,Result.andThen_ok,B,t,C,E,Sem.run_ite,Sem.run_pure];by_cases n:(a,b)=(f,g)
  ·simp only[Prod.mk.injEq] at n;obtain⟨rfl,rfl⟩:=n;by_cases o:c=i
   ·subst o;by_cases r:d=j
    ·subst r;simp
    ·have:¬((d:Int)=j):=(by omega);simp[r,this]
   ·have:¬((c:Int)=i):=(by omega);simp[o,this]
  ·have s:¬(a=f/\b=g):=(by simpa using n);have:¬((a,b,c,d)=(f,g,i,j)):=(by intro e;simp only[Prod.mk.injEq] at e;exact s ⟨e.1,e.2.1⟩);simp[s,this]
theorem ana (w:au)(p:PK)(k:j8 w p.1):∀(a:List MapEntry) (K:List PK) (i:Nat),a.map (·.key)=K.map gS->(∀q∈K,j8 w q.1)->
 (p ∉ K/\(Instr.findAsking 210 (gS p) a i).run prog w=.ok U w)\/(p∈K/\∃j e,a[j]? =Z e/\e.key=gS p/\(Instr.findAsking 210 (gS p) a i).run prog w=.ok (Z (i+j,e.val)) w):=by
 intro a;induction a with
 | nil=>
  intro K i b _;have:K=[]:=(by simpa using b.symm);subst this;exact .inl ⟨by simp,by simp[Instr.findAsking]⟩
 | cons e a l=>
  intro K i b g;cases K with
  | nil=>simp at b
  | cons q K=>
   simp only[List.map_cons,List.cons.injEq] at b;have c:=anv w p q k (g q (by simp));rw[<-b.1] at c;by_cases h:p=q
   ·subst h;refine .inr ⟨by simp,0,e,rfl,b.1,?_⟩;simp[Instr.findAsking,c]
   ·rcases l K (i+1) b.2 (fun q m=>g q (by simp[m])) with⟨d,f⟩|⟨d,j,n,f,o,r⟩
    ·exact .inl ⟨by simp[h,d],by simp[Instr.findAsking,c,h,f]⟩
    ·refine .inr ⟨by simp[d],j+1,n,by simpa using f,o,?_⟩;simp[Instr.findAsking,c,h,r];omega
theorem AC.abg {b:List (PK×aw)}(h:AC w B b){a:Array MapEntry}(d:w.heap[B]? =Z (.map a Q))(p:PK)(f:j8 w p.1):
 (p ∉ b.map (·.1)/\(Instr.findKey 210 (gS p) a.toList).run prog w=.ok U w)\/(p∈b.map (·.1)/\∃j e,a.toList[j]? =Z e/\e.key=gS p/\(Instr.findKey 210 (gS p) a.toList).run prog w=.ok (Z (j,e.val)) w):=by
 obtain⟨k,l,c,g⟩:=h.ex;rw[d] at c;simp only[Option.some.injEq,Obj.map.injEq] at c;obtain⟨rfl,rfl⟩:=c;rw[run_findKey_eq w agU];have:=ana w p f a.toList (b.map (·.1)) 0 (Zf g) (fun q i=>by obtain⟨x,hx,rfl⟩:=List.mem_map.1 i;exact h.Q9 x hx);simpa using this
theorem bV.apZ {K:List PK}(h:bV w B K)(p:PK)(d:j8 w p.1):(Instr.lookup 95 (.map (Z B)) (gS p) ap).run prog w=.ok (.tuple #[.agg #[],az (decide (p∈K))]) w:=by
 obtain⟨f,Q,c,g⟩:=h.ex;have hf:=h.abg c p d;rw[MZ] at hf;have i:=Wp w;have k:=XG f.isEmpty p w;simp only[Instr.lookup,Sem.run_bind,run_underlying underlying95,Result.andThen_ok,MapKept.run_getObj_map c,Sem.run_pure,k];rcases hf with⟨a,b⟩|⟨a,j,e,b,m,l⟩
 ·simp[b,a,i]
 ·have:=bV.val g (List.mem_of_getElem? b);simp[l,a,this]
theorem bV.afZ {K:List PK}(h:bV w B K)(p:PK)(k:j8 w p.1):∃w',(Instr.mapUpdate 95 (.map (Z B)) (gS p) (.agg #[])).run prog w=.ok () w'/\bV w' B (lD K p)/\w.grownBy w' (Z B):=by
 obtain⟨d,Q,b,f⟩:=h.ex;have hf:=h.abg b p k;rw[MZ] at hf;have m:=XG ak p w;have n:=J b;have hn:∀q:PK,j8 w q.1->B≠q.1:=(by rintro q ⟨V,e,a⟩ rfl;rw[b] at a;cases a);have pl:∀(o:Obj) (q:PK),j8 w q.1->j8 {w with heap:=w.heap.setIfInBounds B o} q.1:=(by intro o q a;have v:=hn q a;refine a.keeps ?_;simp[v]);rcases hf with⟨l,g⟩|⟨l,j,e,g,s,x⟩
 ·refine⟨{w with heap:=w.heap.setIfInBounds B (.map (d.push {key:=gS p,val:=.agg #[],born:=Q}) (Q+1))},?_,⟨⟨d.push {key:=gS p,val:=.agg #[],born:=Q},Q+1,?_,?_⟩,?_⟩,OS _⟩
  ·simp only[Instr.mapUpdate,Sem.run_bind,run_underlying underlying95,Result.andThen_ok,MapKept.run_getObj_map b,m,g,MapKept.run_setObj_map _ b]
  ·simp[n]
  ·simp[lD,l] at f⊢;exact f
  ·intro q a;obtain⟨r,c,rfl⟩:=List.mem_map.1 a;rcases vy.1 c with c | rfl
   ·exact pl _ _ (h.pl c)
   ·exact pl _ _ k
 ·have y:=bV.val f (List.mem_of_getElem? g);have t:d[j]? =Z e:=(by simpa using g);refine⟨{w with heap:=w.heap.setIfInBounds B (.map (d.modify j fun e=>{e with key:=gS p,val:=.agg #[]}) Q)},?_,⟨⟨d.modify j fun e=>{e with key:=gS p,val:=.agg #[]},Q,?_,?_⟩,?_⟩,OS _⟩
  ·simp only[Instr.mapUpdate,Sem.run_bind,run_underlying underlying95,Result.andThen_ok,MapKept.run_getObj_map b,m,x,t,Option.map_some,Option.getD_some,s,Instr.keyThatStays,Xc,if_true,Sem.run_pure,MapKept.run_setObj_map _ b]
  ·simp[n]
  ·have z:lD K p=K:=(by simp[lD,l]);rw[z,<-f];refine List.ext_getElem? fun i=> ?_;simp only[List.getElem?_map,Array.getElem?_toList,Array.getElem?_modify];by_cases u:j=i
   ·subst u;simp[t,s,y]
   ·simp[u]
  ·intro q a;obtain⟨r,c,rfl⟩:=List.mem_map.1 a;rcases vy.1 c with c | rfl
   ·exact pl _ _ (h.pl c)
   ·exact pl _ _ k
open ag (Tok Po Tr nx bI aO ba aA)
theorem agS (b off n c d:Nat)(w:au)(hn:0<n):
 aC prog 201 #[O (Z (Y b off U)) n c,A I (d:Int)] w fun x w'=>x=aE (.agg #[aB (Z (Y b off U)),A I (n:Int),A I (d:Int)])/\Bl w w':=by
 go_enter func201,ntmps201;go_wp2;exact bodyPost_ret (v:=.agg #[aB (Z (Y b off U)),A I (n:Int),A I (d:Int)]) (by simp[results,results201,go_sem]) rfl ⟨rfl,(aF _ _).alloc (aD _) _⟩
theorem Ys {K:List PK}(h:bV w B K)(b off n c d:Nat)(hn:0<n)(i:j8 w b):
 aC prog 163 #[.map (Z B),O (Z (Y b off U)) n c,A I (d:Int)] w fun x w'=>x=aE (az (decide ((b,off,n,d)∈K)))/\bV w' B (lD K (b,off,n,d))/\w.grownBy w' (Z B):=by
 have C:=agS b off n c d w hn;have l:ah (bV w B K):=h;have r:ah (j8 w b):=i;clear h i hn;go_enter func163,ntmps163;go_wp2_with fail;refine C.mono ?_;rintro x s ⟨rfl,m⟩;obtain⟨f,j⟩:∃f,f=s.alloc (M #[aB (Z (Y b off U)),A I (n:Int),A I (d:Int)] 232):=⟨_,rfl⟩;have g:Bl w f:=(by rw[j];exact m.alloc m.size _);have E:f.heap.size=s.heap.size+1:=(by rw[j];simp);have kp:∀W:au,Bl w W->bV W B K/\j8 W b:=fun W o=>⟨l.keeps (o.block _ l.lt) fun p i=>o.block _ (by obtain⟨V,e,q⟩:=l.pl i;exact J q),r.keeps (o.block _ (by obtain⟨V,e,q⟩:=r.out;exact J q))⟩;have t:=(kp f g).1.asks (b,off,n,d) (kp f g).2;have a:Bl w (f.alloc (M #[] 212)):=g.alloc g.size _;obtain⟨u,v,y,dg⟩:=(kp _ a).1.put (b,off,n,d) (kp _ a).2;have F:ah (bV u B (lD K (b,off,n,d))/\w.grownBy u (Z B)):=⟨y,⟨dg.os.trans a.os,dg.tape.trans a.tape,dg.output.trans a.output,fC a.size dg.size,fun k z hn=>(dg.block k (gD z a.size) hn).trans (a.block k z)⟩⟩;rw[j] at t v;unfold gS at t v;clear m g a kp y dg j E;go_wp2;go_ret;exact⟨rfl,F.out⟩
theorem aii (w:au):aC prog 44 #[] w fun x w'=>x=aE (.agg #[.map (Z (w.heap.size+1)),.map (Z (w.heap.size+2))])/\bV w' (w.heap.size+1) []/\Bl w w':=by
 have b:=@run_makeMap prog;go_enter func44,ntmps44;go_wp2;refine bodyPost_ret (v:=.agg #[.map (Z (w.heap.size+1)),.map (Z (w.heap.size+2))]) (by simp[results,results44,go_sem]) rfl ⟨rfl,?_,(((aF _ _).alloc (aD _) _).alloc (by simp) _).alloc (by simp;omega) _⟩;exact⟨⟨#[],0,cR (cu _ _ _ (by simp)),rfl⟩,fun p a=>by simp at a⟩
def IG (w:au)(b off n:Nat)(a:List Tr):Prop:=n=a.length/\∃(c:Nat) (css:List (Lv)),qy w (fun b=>b<w.heap.size) 7 (Z (Y b off U)) b off n c css/\css.length=a.length/\∀i (h:i<a.length) (h':i<css.length),aS w (fun b=>b<w.heap.size) a[i] css[i]
theorem IG.pO {k:List Tr}(h:IG w b off n a)(g:IG w b off n k):a=k:=by
 obtain⟨v,c,o,l,x,p⟩:=h;obtain⟨y,z,q,m,B,gk⟩:=g;have e:o=q:=(by refine List.ext_getElem (by omega) fun i d f=> ?_;refine List.ext_getElem ((l.A0 i d).trans (m.A0 i f).symm) fun j r s=> ?_;have t:=l.cell i d j _ (List.getElem?_eq_getElem r);have u:=m.cell i f j _ (List.getElem?_eq_getElem s);exact Option.some.inj (t.symm.trans u));subst e;exact List.ext_getElem (by omega) fun i d f=>(p i d (by omega)).pO (gk i f (by omega))
def gP (w:au)(K:List PK)(d:Nat):Prop:=∀p∈K,d<p.2.2.2->∀a,IG w p.1 p.2.1 p.2.2.1 a->a.all (ag.dZ (12 - p.2.2.2))=ap
theorem gP.none (w:au)(d:Nat):gP w [] d:=fun p a=>by simp at a
def Us (w0:au)(B B2 d:Nat)(t:Tr):Prop:=∀(W:au) (b off:Nat) (cs:Lv) (K:List PK),Bl w0 W->bV W B K->gP w0 K d->iY w0 b off cs->aS w0 (fun b=>b<w0.heap.size) t cs->
 aC prog 116 #[.agg #[.map (Z B),.map (Z B2)],aB (Z (Y b off U)),A I (d:Int)] W fun x W'=>∃K',x=aE (az (ag.dZ (12 - d) t))/\bV W' B K'/\W.grownBy W' (Z B)/\(∀p∈K',p∈K\/d<p.2.2.2)/\(ag.dZ (12 - d) t=ap->gP w0 K' d)
theorem amP (h:ag.mI t=ak):ag.dZ m t=ak:=by
 cases m with
 | zero=>rfl
 | succ m=>simp[ag.dZ,h]
theorem amN (b:d<=11)(h:ag.mI t=ap):ag.dZ (12 - d) t=((ag.qf t).isEmpty ||(decide (d≠11) && (ag.qf t).all (ag.dZ (12 - (d+1))))):=by
 have e:12 - d=(11 - d)+1:=(by omega);have a:12 - (d+1)=11 - d:=(by omega);rw[e,a];simp only[ag.dZ,h,Bool.true_and];have:decide (11 - d≠0)=decide (d≠11):=(by simp;omega);rw[this]
theorem Ds (h:Below B w w')(n:Nat):Below B w (w'.drewN n):=⟨h.os,h.tape,h.output,h.size,h.block⟩
theorem amM (c:d<=11)(b:a.isEmpty=ak)(h:a.all (ag.dZ (12 - (d+1)))=ap):(decide (d≠11) && a.all (ag.dZ (12 - (d+1))))=ap:=by
 by_cases e:d=11
 ·subst e;cases a with
  | nil=>cases b
  | cons x r=>simp[ag.dZ] at h
 ·rw[h];simp[e]
theorem OT {c d:au}(a:Bl W c)(b:c.drew.grownBy d (Z B)):W.grownBy d (Z B):=⟨b.os.trans a.os,b.tape.trans a.tape,b.output.trans a.output,fC a.size b.size,fun k e hn=>(b.block k (gD e a.size) hn).trans (a.block k e)⟩
theorem aaR {a:au}(h:W.grownBy wr (Z B))(g:wr.drew.grownBy a (Z B)):W.grownBy a (Z B):=⟨g.os.trans h.os,g.tape.trans h.tape,g.output.trans h.output,fC h.size g.size,fun k b hn=>(g.block k (gD b h.size) hn).trans (h.block k b hn)⟩
structure LkS (w0 W wr:au)(B B2 d:Nat)(K1 Ki:List PK)(a:List Tr)(k:Nat):Prop where
 ff:Bl w0 wr
 gr:W.grownBy wr (Z B)
 set:bV wr B Ki
 inv:gP w0 Ki (d+1)
 new:∀p∈Ki,p∈K1\/d+1<p.2.2.2
 all:(a.take k).all (ag.dZ (12 - (d+1)))=ap
 box:wr.heap[W.heap.size]? =Z (M #[.map (Z B),.map (Z B2)] 97)
theorem TS (a:Bl X W)(h:W.grownBy wr (Z B))(c:X.heap.size<=B):Bl X wr:=
 ⟨h.os.trans a.os,h.tape.trans a.tape,h.output.trans a.output,fC a.size h.size,fun k b=>(h.block k (gD b a.size) (by simp;omega)).trans (a.block k b)⟩
theorem qw {x y:aw}{e:TypeId}(h:w.heap[b]? =Z (M #[x,y] e)):w.cell? (Y b 0 U)=Z x/\w.cell? (Y b 1 U)=Z y:=by
 constructor<;>simp[World.cell?,h]
theorem Hf {ab a ac:Nat}{css:List (Lv)}(h:qy X (fun b=>b<X.heap.size) 7 (Z (Y ab a U)) ab a n ac css){i:Nat}(c:i<css.length):iY X ab (a+i*7) css[i]:=
 ⟨h.lt (by omega),fun j d e=>h.cell i c j d e⟩
theorem akK {K f:List PK}{c:PK}(j:gP X K d)(k:gP X f (d+1))(hn:∀p∈f,p∈lD K c\/d+1<p.2.2.2)(l:IG X c.1 c.2.1 c.2.2.1 a)(o:c.2.2.2=d+1)(m:a.all (ag.dZ (12 - (d+1)))=ap):gP X f d:=by
 intro p i n b g;by_cases h:d+1<p.2.2.2
 ·exact k p i h b g
 ·have e:p.2.2.2=d+1:=(by omega);rcases hn p i with h1 | h1
  ·rcases vy.1 h1 with h2 | rfl
   ·exact j p h2 n b g
   ·have:=l.pO g;subst this;rw[e];exact m
  ·omega
theorem akL {K:List PK}{a:PK}(b:gP X K d)(e:a.2.2.2=d+1):gP X (lD K a) (d+1):=by
 intro p c f;rcases vy.1 c with h | rfl
 ·exact b p h (by omega)
 ·omega
theorem Yw (hB:X.heap.size<=B)(er:gU X X.heap.size)(hd:d<=11)(ad:d<11->∀t,Us X B B2 (d+1) t)(t:Tr):Us X B B2 d t:=by
 intro W b off V r hW hS hI hx ht;obtain⟨W0,F⟩:∃W0,W0=W.alloc (M #[.map (Z B),.map (Z B2)] 97):=⟨_,rfl⟩;have KS:Bl W W0:=(by rw[F];exact(aF _ _).alloc (aD _) _);have bG:Below _ _ _:=hW.trans (KS.mono hW.size);have CR:∀u,Bl X u->iY u b off V/\aS u (fun b=>b<X.heap.size) t V:=fun u G=>⟨hx.keeps G.size (G.block _ hx.lt),ht.keeps ⟨G.size,fun b c _=>G.block b c⟩⟩;have iE:=aqi (CR W0 bG).1 (CR W0 bG).2 (er.keeps bG.size fun b c=>bG.block b c);have fV:W0.heap[W.heap.size]? =Z (M #[.map (Z B),.map (Z B2)] 97):=(by rw[F];exact cu _ _ _ rfl);have Df:∀u,Bl W u->bV u B r:=fun u G=>hS.keeps (G.block _ hS.lt) fun p q=>G.block _ (by obtain⟨V,e,hh⟩:=hS.pl q;exact J hh);cases haf:ag.mI t with
 | false=>
  have K:ah (ag.dZ (12 - d) t=ak):=amP haf;have HS:=am Df;have L:=am KS;rw[K.out];rw[haf] at iE;clear haf CR Df hx ht hI hS hW bG fV KS;go_enter func116,ntmps116;go_wp2_with fail;rw[<-F];clear F;refine iE.mono ?_;rintro x v ⟨rfl,y⟩;go_wp2;go_ret;have c:=L.trans (y.mono L.size);exact⟨r,rfl,HS.out _ c,⟨c.os,c.tape,c.output,c.size,fun k hk _=>c.block k hk⟩,fun p q=>.inl q,fun h=>by cases h⟩
 | true=>
  cases ht with
  | @mk k p n ty s l a lv av N hs hl hr aG hk=>
  have KF:=amN hd haf;have nU:ag.qf (.mk k p n ty s l a)=a:=rfl;rw[nU] at KF;obtain⟨ao,ab,f,ac,rfl,P⟩:=hr;have vK:=P.mx;have uz:=P.cap;rw[haf] at iE;have Q:ah (∀u,Bl X u->iY u b off [A I k,A I p,A I n,A I ty,H s,lv,O ao N.length ac]):=fun u G=>(CR u G).1;have HS:ah (∀u,Bl W u->bV u B r):=Df;have L:=am KS;have HW:=am hW;have lV:=am fV;have R:=am KF;have sO:=hx.lt;have OF:=hW.size;have HI:=am hI;unfold maxLen at vK;clear haf CR Df hx hI hS hW bG fV KS KF nU;rcases Nat.eq_zero_or_pos N.length with fj | fj
  ·have K:ah (ag.dZ (12 - d) (.mk k p n ty s l a)=ap):=(by show _=_;rw[R.out,List.length_eq_zero_iff.1 (by omega:a.length=0)];rfl);rw[K.out];rw[fj] at Q;clear P aG hk uz R fj;go_enter func116,ntmps116;go_wp2_with fail;rw[<-F];clear F;refine iE.mono ?_;rintro x v ⟨rfl,y⟩;have c:=L.trans (y.mono L.size);obtain⟨c0,c1,c2,c3,c4,c5,c6⟩:=(Q.out v (HW.trans (c.mono OF))).all;have aK:=(Q.out v (HW.trans (c.mono OF))).lt;have cX:=am c;clear y c;go_wp2
   go_quiet (fail)
   go_wp2;go_ret;have c:=Ds cX nq;exact⟨r,rfl,HS.out _ c,⟨c.os,c.tape,c.output,c.size,fun k hk _=>c.block k hk⟩,fun p q=>.inl q,fun _=>HI.out⟩
  ·have mf:=P.dR fj;subst mf;have nR:=P.pl fj;have uL:ah (IG _ _ _ _ _):=⟨aG,ac,N,P,aG,hk⟩;have Vx:ah (∀i (h:i<N.length),iY X ab (f+i*7) N[i]):=fun i hi=>Hf P hi;have ae:=am hk;have yU:=P.lt fj;have uR:=am aG;have B6:ah (j8 X ab):=nR;have iy:=am ad;have SP:a.isEmpty=ak:=by
    cases a with
    | nil=>have h0:N.length=0:=aG;omega
    | cons _ _=>rfl
   have ob:=am SP;rw[SP,Bool.false_or] at R;obtain⟨m,hm⟩:=nm N.length;have HM:=am hm;rw[<-hm] at Q uL fj uz;clear P aG hk nR ad SP hm;have wd:IntKind.i64.wrap ((d:Int)+1)=((d+1:Nat):Int):=(by rw[IntKind.wrap_i64];omega);by_cases nS:(ab,f,m,d+1)∈r
   ·have K:ah (ag.dZ (12 - d) (.mk k p n ty s l a)=ap):=(by show _=_;rw[R.out];exact amM hd ob (HI.out _ nS (Nat.lt_succ_self d) a uL));have af:ah (lD r (ab,f,m,d+1)=r):=(by show _=_;unfold lD;rw[if_pos nS]);have Vm:=am nS;rw[K.out];clear K R nS;go_enter func116,ntmps116;go_wp2_with fail;rw[<-F];clear F;refine iE.mono ?_;rintro x v ⟨rfl,y⟩;have c:Below _ _ _:=L.trans (y.mono L.size);have S:Below _ _ _:=HW.trans (c.mono OF);obtain⟨c0,c1,c2,c3,c4,c5,c6⟩:=(Q.out v S).all;have aK:=(Q.out v S).lt;have et:=ku y lV;obtain⟨l0,l1⟩:=qw et;have kJ:=J et;have sU:=Ys (w:=v.drew) (HS.out _ (Ds c 1)) ab f m ac (d+1) fj (B6.keeps (S.block _ yU));rw[decide_eq_true Vm.out,af.out] at sU;have Vl:=am sU;have nV:b≠B:=(by omega);have T:W.heap.size≠B:=(by have:=(HS.out _ (aF _ _)).lt;omega);have cX:=am c;have m0:((m:Int)==0)=ak:=(by simp;omega);clear sU y c S et;go_wp2
    go_region_held3 (fun w'=>w'.cell? (Y W.heap.size 0 U)=Z (.map (Z B))/\w'.cell? (Y b (off+6) U)=Z (O (Z (Y ab f U)) m ac)) (go_keep)
     (first
       |(go_at_call 163;refine(Vl.out).mono ?_;rintro x z ⟨rfl,ec,aM⟩;have fK:ah (bV z B r):=ec;have dX:ah (v.drew.grownBy z (Z B)):=aM;have q0:z.cell? (Y W.heap.size 0 U)=Z (.map (Z B)):=(en (a:=(Y W.heap.size 0 U)) (aM.block W.heap.size kJ (by simp[T]))).trans l0;have q1:z.cell? (Y b (off+6) U)=Z (O (Z (Y ab f U)) m ac):=(en (a:=(Y b (off+6) U)) (aM.block b aK (by simp[nV]))).trans c6;clear ec aM))
    all_goals go_wp2
    all_goals go_ret
    exact⟨r,rfl,fK.out,OT cX dX,fun p q=>.inl q,fun _=>HI.out⟩
   ·have Vm:=am nS;have V7:ah (gP X (lD r (ab,f,m,d+1)) (d+1)):=akL HI rfl;clear nS;go_enter func116,ntmps116;go_wp2_with fail;rw[<-F];clear F;refine iE.mono ?_;rintro x v ⟨rfl,y⟩;have c:=L.trans (y.mono L.size);have S:=HW.trans (c.mono OF);obtain⟨c0,c1,c2,c3,c4,c5,c6⟩:=(Q.out v S).all;have aK:=(Q.out v S).lt;have et:=ku y lV;obtain⟨l0,l1⟩:=qw et;have kJ:=J et;have sU:=Ys (w:=v.drew) (HS.out _ (Ds c 1)) ab f m ac (d+1) fj (B6.keeps (S.block _ yU));rw[decide_eq_false Vm.out] at sU;have Vl:=am sU;have nV:b≠B:=(by omega);have T:W.heap.size≠B:=(by have:=(HS.out _ (aF _ _)).lt;omega);have cX:=am c;have jB:=am et;have m0:((m:Int)==0)=ak:=(by simp;omega);clear sU y c S et;go_wp2
    go_region_held3 (fun w'=>w'.cell? (Y W.heap.size 0 U)=Z (.map (Z B))/\w'.cell? (Y b (off+6) U)=Z (O (Z (Y ab f U)) m ac)) (go_keep)
     (first
       |(go_at_call 163;refine(Vl.out).mono ?_;rintro x z ⟨rfl,ec,aM⟩;have fK:ah (bV z B (lD r (ab,f,m,d+1))):=ec;have dX:ah (v.drew.grownBy z (Z B)):=aM;have q0:z.cell? (Y W.heap.size 0 U)=Z (.map (Z B)):=(en (a:=(Y W.heap.size 0 U)) (aM.block W.heap.size kJ (by simp[T]))).trans l0;have q1:z.cell? (Y b (off+6) U)=Z (O (Z (Y ab f U)) m ac):=(en (a:=(Y b (off+6) U)) (aM.block b aK (by simp[nV]))).trans c6;clear ec aM))
    have zH:=am (OT cX dX);have vE:b<z.heap.size:=(by have:=dX.size;have:v.heap.size<=z.heap.size:=this;omega);by_cases KI:d=11
    ·have K:ah (ag.dZ (12 - d) (.mk k p n ty s l a)=ak):=(by show _=_;rw[R.out];simp[KI]);have ai:ah (∀p∈lD r (ab,f,m,d+1),p∈r\/d<p.2.2.2):=fun p q=>by
      rcases vy.1 q with h | rfl
      ·exact .inl h
      ·exact .inr (Nat.lt_succ_self d)
     have d1:((d:Int)+1==12)=ap:=(by simp[KI]);clear R;go_wp2;go_ret;exact⟨_,by rw[K.out];rfl,fK.out,zH.out,ai.out,fun h=>by rw[K.out] at h;cases h⟩
    ·have d1:((d:Int)+1==12)=ak:=(by simp;omega);have ar:ah (LkS X W z B B2 d (lD r (ab,f,m,d+1)) (lD r (ab,f,m,d+1)) a 0):=
      ⟨TS HW zH hB,zH.out,fK.out,V7.out,fun p q=>.inl q,by simp,(dX.block _ kJ (by simp[T])).trans jB⟩
     have HN:=am (iy.out (by omega));have VV:ah (ag.dZ (12 - d) (.mk k p n ty s l a)=a.all (ag.dZ (12 - (d+1)))):=(by show _=_;rw[R.out];simp[KI]);clear R fK c0 c1 c2 c3 c4 c5 c6 l0 l1 q0;go_wp2;go_loopw [36] (fun i wr=>∃(j:Nat) (Ki:List PK),j<=m/\i=A I j/\ah (LkS X W wr B B2 d (lD r (ab,f,m,d+1)) Ki a j)) (fun i _=>m - (intOf i).toNat);case atStart=>exact⟨0,_,eJ _,rfl,ar⟩
     case round=>
      obtain⟨j,Ki,hj,rfl,o⟩:=hrel;have ml:=HM.out;by_cases ax:j<m
      ·have uw:j<N.length:=(by omega);have dp:j<a.length:=(by have:=uR.out;omega);have NL:=(Q.out wr o.ff);obtain⟨_,_,_,_,_,_,c6⟩:=NL.all;have Zx:=NL.lt;obtain⟨l0,l1⟩:=qw o.box;have eZ:=J o.box;have cT:=HN.out a[j] wr.drew ab (f+j*7) N[j] Ki (Ds o.ff 1) (o.set.keeps rfl fun _ _=>rfl) o.inv (Vx.out j uw) (ae.out j dp uw);cases hq:ag.dZ (12 - (d+1)) a[j] with
       | true=>
        rw[hq] at cT;have HQ:=am hq;have HC:ah (aC prog 116 #[.agg #[.map (Z B),.map (Z B2)],aB (Z (Y ab (f+j*7) U)),A I ((d+1:Nat):Int)] wr.drew fun x W'=>∃g,x=aE (az ap)/\bV W' B g/\wr.drew.grownBy W' (Z B)/\(∀p∈g,p∈Ki\/d+1<p.2.2.2)/\gP X g (d+1)):=cT.mono fun x W' ⟨g,e1,e2,e3,e4,e5⟩=>⟨g,e1,e2,e3,e4,e5 rfl⟩;clear cT hq NL ml;go_wp2
        go_region_held3 (fun w'=>w'.cell? (Y W.heap.size 0 U)=Z (.map (Z B))/\w'.cell? (Y W.heap.size 1 U)=Z (.map (Z B2))/\w'.cell? (Y b (off+6) U)=Z (O (Z (Y ab f U)) m ac)) (go_keep)
         (first
           |(go_at_call 116;refine(HC.out).mono ?_;rintro x C ⟨g,rfl,kq,E,dI,Ou⟩;have H3:ah (bV C B g∧wr.drew.grownBy C (Z B)∧(∀p∈g,p∈Ki∨d+1<p.2.2.2)∧gP X g (d+1)):=⟨kq,E,dI,Ou⟩;have q0:C.cell? (Y W.heap.size 0 U)=Z (.map (Z B)):=(en (a:=(Y W.heap.size 0 U)) (E.block W.heap.size eZ (by simp[T]))).trans l0;have q1:C.cell? (Y W.heap.size 1 U)=Z (.map (Z B2)):=(en (a:=(Y W.heap.size 1 U)) (E.block W.heap.size eZ (by simp[T]))).trans l1;have q2:C.cell? (Y b (off+6) U)=Z (O (Z (Y ab f U)) m ac):=(en (a:=(Y b (off+6) U)) (E.block b Zx (by simp[nV]))).trans c6;clear kq E dI Ou))
        all_goals go_wp2
        go_roundw
        case rel=>
         refine⟨j+1,g,by omega,by go_num,?_⟩;obtain⟨h1,h2,h3,h4⟩:=H3.out;have hg:=aaR o.gr h2;refine⟨TS HW hg hB,hg,h1,h4,fun p q=> ?_,?_,(h2.block _ eZ (by simp[T])).trans o.box⟩
         ·rcases h3 p q with h | h
          ·exact o.new p h
          ·exact .inr h
         ·rw[List.take_succ_eq_append_getElem dp,List.all_append,o.all,Bool.true_and,List.all_cons,HQ.out];rfl
        case measure=>simp[intOf];omega
       | false=>
        rw[hq] at cT;have HQ:ah (a.all (ag.dZ (12 - (d+1)))=ak):=by
         show _=_;rw[List.all_eq_false];exact⟨a[j],fD dp,by rw[hq];simp⟩
        have HC:ah (aC prog 116 #[.agg #[.map (Z B),.map (Z B2)],aB (Z (Y ab (f+j*7) U)),A I ((d+1:Nat):Int)] wr.drew fun x W'=>∃g,x=aE (az ak)/\bV W' B g/\wr.drew.grownBy W' (Z B)/\(∀p∈g,p∈Ki\/d+1<p.2.2.2)/\True):=cT.mono fun x W' ⟨g,e1,e2,e3,e4,_⟩=>⟨g,e1,e2,e3,e4,trivial⟩;clear cT hq NL ml;go_wp2
        go_region_held3 (fun w'=>w'.cell? (Y W.heap.size 0 U)=Z (.map (Z B))/\w'.cell? (Y W.heap.size 1 U)=Z (.map (Z B2))/\w'.cell? (Y b (off+6) U)=Z (O (Z (Y ab f U)) m ac)) (go_keep)
         (first
           |(go_at_call 116;refine(HC.out).mono ?_;rintro x C ⟨g,rfl,kq,E,dI,Ou⟩;have H3:ah (bV C B g∧wr.drew.grownBy C (Z B)∧(∀p∈g,p∈Ki∨d+1<p.2.2.2)∧True):=⟨kq,E,dI,trivial⟩;have q0:C.cell? (Y W.heap.size 0 U)=Z (.map (Z B)):=(en (a:=(Y W.heap.size 0 U)) (E.block W.heap.size eZ (by simp[T]))).trans l0;have q1:C.cell? (Y W.heap.size 1 U)=Z (.map (Z B2)):=(en (a:=(Y W.heap.size 1 U)) (E.block W.heap.size eZ (by simp[T]))).trans l1;have q2:C.cell? (Y b (off+6) U)=Z (O (Z (Y ab f U)) m ac):=(en (a:=(Y b (off+6) U)) (E.block b Zx (by simp[nV]))).trans c6;clear kq E dI Ou))
        all_goals go_wp2
        go_ret;obtain⟨h1,h2,h3,h4⟩:=H3.out;refine⟨g,by rw[VV.out,HQ.out];rfl,h1,aaR o.gr h2,fun p q=> ?_,fun h=>by rw[VV.out,HQ.out] at h;cases h⟩;rcases h3 p q with h | h
        ·rcases o.new p h with h' | h'
         ·rcases vy.1 h' with h' | rfl
          ·exact .inl h'
          ·exact .inr (Nat.lt_succ_self d)
         ·exact .inr (by omega)
        ·exact .inr (by omega)
      ·have HQ:ah (a.all (ag.dZ (12 - (d+1)))=ap):=(by have h:=o.all;rwa [List.take_of_length_le (by have:=uR.out;omega)] at h);clear ml;go_wp2;go_ret;refine⟨Ki,by rw[VV.out,HQ.out];rfl,o.set,o.gr,fun p q=> ?_,fun _=>akK HI o.inv o.new uL rfl HQ⟩;rcases o.new p q with h' | h'
       ·rcases vy.1 h' with h' | rfl
        ·exact .inl h'
        ·exact .inr (Nat.lt_succ_self d)
       ·exact .inr (by omega)
theorem Yx (a:X.heap.size<=B)(b:gU X X.heap.size):∀m d,d+m=11->∀t,Us X B B2 d t:=by
 intro m;induction m with
 | zero=>intro d h t;exact Yw a b (by omega) (fun e=>by omega) t
 | succ m c=>intro d h t;exact Yw a b (by omega) (fun _=>c (d+1) (by omega)) t
theorem aaZ {z0 z1 z2 d:Int}{e:Bt}{f:Oa}{g d5:Nat}{i:Oa}{k d6:Nat}(n:aS w S t [A I z0,A I z1,A I z2,A I d,H e,O f g d5,O i k d6])(o:gU w w.heap.size):
 aC prog 62 #[.agg #[A I z0,A I z1,A I z2,A I d,H e,O f g d5,O i k d6]] w fun x w'=>x=aE (az (ag.dZ 12 t))/\Bl w w':=by
 obtain⟨X,a⟩:=nm (w.alloc (M #[A I z0,A I z1,A I z2,A I d,H e,O f g d5,O i k d6] 48));have c:=eS a;have p:=uJ a;have q:=aa a
 have hx:iY X w.heap.size 0 [A I z0,A I z1,A I z2,A I d,H e,O f g d5,O i k d6]:=⟨by omega,fun j ad E=>by
  simp only[World.cell?,q]
  simpa using E⟩
 have s:=(n.keeps (aP.bm c)).mono fun b _ h=>h;have u:gU X X.heap.size:=(o.keeps c.size fun b F=>c.block b F).mono (by omega);have G:=aii X;obtain⟨r,l⟩:=nm (ag.dZ (12 - 0) t);have v:=l.symm;rw[v];have K:ah (∀(W:au),Bl X W->bV W (X.heap.size+1) []->aC prog 116 #[.agg #[.map (Z (X.heap.size+1)),.map (Z (X.heap.size+2))],aB (Z (Y w.heap.size 0 U)),A I 0] W fun x y=>x=aE (az r)/\W.grownBy y (Z (X.heap.size+1))):=(by intro W L hS;rw[l];refine(Yx (B:=X.heap.size+1) (B2:=X.heap.size+2) (by omega) u 11 0 rfl t W w.heap.size 0 _ [] L hS (gP.none _ _) hx s).mono ?_;rintro x y ⟨K',N,_,P,_,_⟩;exact⟨N,P⟩);have Q:=am c;have R:=am p;clear hx s u c n o q l v p;go_enter func62,ntmps62;go_wp2_with fail;rw[<-a];clear a;refine G.mono ?_;rintro x T ⟨rfl,z,m⟩;have V:=K.out T m z;have cX:=am m;clear z m;go_wp2_with fail;refine V.mono ?_;rintro x w2 ⟨rfl,C⟩;have HG:=am C;clear C;go_wp2;go_ret;have hz:=R.out;exact⟨rfl,Q.trans ((TS cX.out HG.out (by omega)).mono (by omega))⟩
theorem agR (b off n c d:Nat)(w:au)(hn:0<n):
 aC prog 184 #[O (Z (Y b off U)) n c,A I (d:Int)] w fun x w'=>x=aE (.agg #[aB (Z (Y b off U)),A I (n:Int),A I (d:Int)])/\Bl w w':=by
 go_enter func184,ntmps184;go_wp2;exact bodyPost_ret (v:=.agg #[aB (Z (Y b off U)),A I (n:Int),A I (d:Int)]) (by simp[results,results184,go_sem]) rfl ⟨rfl,(aF _ _).alloc (aD _) _⟩
theorem aiN {K:List PK}(h:bV w B K)(b off n c d:Nat)(hn:0<n)(i:j8 w b):
 aC prog 139 #[.map (Z B),O (Z (Y b off U)) n c,A I (d:Int)] w fun x w'=>x=aE (az (decide ((b,off,n,d)∈K)))/\bV w' B (lD K (b,off,n,d))/\w.grownBy w' (Z B):=by
 have C:=agR b off n c d w hn;have l:ah (bV w B K):=h;have r:ah (j8 w b):=i;clear h i hn;go_enter func139,ntmps139;go_wp2_with fail;refine C.mono ?_;rintro x s ⟨rfl,m⟩;obtain⟨f,j⟩:∃f,f=s.alloc (M #[aB (Z (Y b off U)),A I (n:Int),A I (d:Int)] 210):=⟨_,rfl⟩;have g:Bl w f:=(by rw[j];exact m.alloc m.size _);have E:f.heap.size=s.heap.size+1:=(by rw[j];simp);have kp:∀W:au,Bl w W->bV W B K/\j8 W b:=fun W o=>⟨l.keeps (o.block _ l.lt) fun p i=>o.block _ (by obtain⟨V,e,q⟩:=l.pl i;exact J q),r.keeps (o.block _ (by obtain⟨V,e,q⟩:=r.out;exact J q))⟩;have t:=(kp f g).1.apZ (b,off,n,d) (kp f g).2;have a:Bl w (f.alloc (M #[] 212)):=g.alloc g.size _;obtain⟨u,v,y,dg⟩:=(kp _ a).1.afZ (b,off,n,d) (kp _ a).2;have F:ah (bV u B (lD K (b,off,n,d))/\w.grownBy u (Z B)):=⟨y,⟨dg.os.trans a.os,dg.tape.trans a.tape,dg.output.trans a.output,fC a.size dg.size,fun k z hn=>(dg.block k (gD z a.size) hn).trans (a.block k z)⟩⟩;rw[j] at t v;unfold gS at t v;clear m g a kp y dg j E;go_wp2;go_ret;exact⟨rfl,F.out⟩
theorem aih (w:au):aC prog 44 #[] w fun x w'=>x=aE (.agg #[.map (Z (w.heap.size+1)),.map (Z (w.heap.size+2))])/\bV w' (w.heap.size+1) []/\bV w' (w.heap.size+2) []/\Bl w w':=by
 have b:=@run_makeMap prog;go_enter func44,ntmps44;go_wp2;refine bodyPost_ret (v:=.agg #[.map (Z (w.heap.size+1)),.map (Z (w.heap.size+2))]) (by simp[results,results44,go_sem]) rfl ⟨rfl,?_,?_,(((aF _ _).alloc (aD _) _).alloc (by simp) _).alloc (by simp;omega) _⟩
 ·exact⟨⟨#[],0,cR (cu _ _ _ (by simp)),rfl⟩,fun p a=>by simp at a⟩
 ·exact⟨⟨#[],0,cu _ _ _ (by simp),rfl⟩,fun p a=>by simp at a⟩
namespace ag
inductive mj:Nat->aV->Prop
 | EP {m:Nat} {p:Int} {s:Bt} {d:Bool} {l:List Po} {e:Tr} (hs:dG s=true) (hl:gp l=true) (hd:d=false->l=[]) (he:FE e):mj (m+1) (.mk 1 p s (ba []) d l e [] [])
 | Eu {m:Nat} {p:Int} {s:Bt} {e:Tr} (hs:dG s=true) (he:FE e):mj (m+1) (.mk 2 p s (ba []) false [] e [] [])
 | Be {m:Nat} {p:Int} {e:Tr} {a b:List aV} (he:FE e) (hm:m≠0) (ha:a.length<=20) (hb:b.length<=20) (ka:∀x∈a,mj m x) (kb:∀x∈b,mj m x):mj (m+1) (.mk 3 p (ba []) (ba []) false [] e a b)
 | Em {m:Nat} {p:Int} {e:Tr} {a:List aV} (he:FE e) (hm:m≠0) (ha:a.length<=20) (ka:∀x∈a,mj m x):mj (m+1) (.mk 4 p (ba []) (ba []) false [] e a [])
 | Ev {m:Nat} {p:Int} {s:Bt} {e:Tr} (hs:dG s=true) (he:FE e):mj (m+1) (.mk 5 p s (ba []) false [] e [] [])
 | Gy {m:Nat} {p:Int} {s o:Bt} (hs:dG s=true) (ho:dG o=true):mj (m+1) (.mk 6 p s o false [] qR [] [])
 | FL {m:Nat} {p q:Int} {s:Bt} {a:List Tr} (he:FE (.mk 4 q 0 0 s [] a)):mj (m+1) (.mk 7 p (ba []) (ba []) false [] (.mk 4 q 0 0 s [] a) [] [])
 | Ez {m:Nat} {p:Int} {e:Tr} (he:FE e):mj (m+1) (.mk 8 p (ba []) (ba []) false [] e [] [])
def Wg (m:Nat)(l:List aV):Prop:=l.length<=20/\∀x∈l,mj m x
theorem apk {S:List Tok->aA aV}(hS:du S)(g:Holds (mj m) S):∀n acc ts l r,qM ts->(∀x∈acc,mj m x)->io e S n acc ts=.ok l r->(∀x∈l,mj m x)/\l.length<=acc.length+n:=by
 intro n;induction n with
 | zero=>
  intro acc ts l r hf c h;unfold io at h;split at h
  ·cases h;exact⟨c,aD _⟩
  ·cases h
 | succ n i=>
  intro acc ts l r hf c h;unfold io at h;split at h
  ·cases h;exact⟨c,by omega⟩
  ·obtain⟨b,p,d,j⟩:=aQ h;have k:=g _ _ _ hf d
   have f:=i (acc++[b]) _ _ _ (hf.dn (hS _ _ _ d)) (fun a hm=>by
    rcases List.mem_append.1 hm with hm | hm
    ·exact c a hm
    ·rw[List.mem_singleton.1 hm];exact k) j
   refine⟨f.1,?_⟩;have o:=f.2;simp at o;omega
theorem GC {s t:aV}{ts r:List Tok}(h:mP e s ts=.ok t r):t=s:=by
 obtain⟨_,_,_,a⟩:=aQ h;cases a;rfl
theorem adT (e:Nat):Holds (fun t=>t=1\/t=2) (kn e):=by
 intro ts a r _ h;unfold kn at h;split at h
 ·cases h;exact .inl rfl
 ·obtain⟨_,_,_,b⟩:=aQ h;cases b;exact .inr rfl
def KdX (k:Int×List Po):Prop:=(k.1=1\/k.1=2)/\gp k.2=ap
theorem Zb (e:Nat):Holds KdX (nO e):=by
 intro ts a r hf h;obtain⟨_,f,c,h⟩:=aQ h;obtain⟨t,g,b,h⟩:=aQ h;obtain⟨l,i,d,h⟩:=aQ h;cases h;have f1:=hf.dn (gZ _ _ _ _ _ c);exact⟨adT e _ _ _ f1 b,JW e _ _ _ (f1.dn (Qw _ _ _ _ b)) d⟩
def LN (q:cV):Prop:=dG q.name=ap/\(q.type=1\/q.type=2)/\gp q.eo=ap
theorem XN (e:Nat):Holds LN (gY e):=by
 intro ts a r hf h;obtain⟨s,f,b,h⟩:=aQ h;obtain⟨k,g,d,h⟩:=aQ h;cases h;have c:=Zb e _ _ _ (hf.dn (iJ _ _ _ _ b)) d;exact⟨uj e _ _ _ hf b,c.1,c.2⟩
theorem apc {p:Nat}(c:dG s=ap){ts r:List Tok}(hf:qM ts)(h:Dq e p s ts=.ok t r):∃a,t=.mk 4 (p:Int) 0 0 s [] a/\FE t:=by
 obtain⟨a,g,d,f⟩:=aQ h;cases f;have b:=O4 (by omega) (xI e 12) (FJ e 12) hf d;exact⟨a,rfl,BQ (by simp[mI,c,b.2]) b.1⟩
theorem aeF {B:List Tok->aA (List aV)}(w:du B)(p:Holds (fun l=>Wg m l/\m≠0) B):Holds (mj (m+1)) (fd e B):=by
 intro ts t r hf h;have g:=hf.dn (jJ ts);unfold fd at h;split at h
 ·obtain⟨x,j,c,h⟩:=aQ h;obtain⟨a,k,f,h⟩:=aQ h;have f1:=g.dn (xI _ _ _ _ _ c);have f2:=f1.dn (w _ _ _ f);have hx:=FJ e 12 _ _ _ g c;have i:=p _ _ _ f1 f;split at h
  ·obtain⟨b,q,n,h⟩:=aQ h;cases h;have u:=p _ _ _ (f2.dn (jJ _)) n;exact .Be hx i.2 i.1.1 u.1.1 i.1.2 u.1.2
  ·cases h;exact .Be hx i.2 i.1.1 (by simp) i.1.2 (fun x hx=>by cases hx)
 split at h
 ·obtain⟨x,j,c,h⟩:=aQ h;obtain⟨a,k,f,h⟩:=aQ h;cases h;have f1:=g.dn (xI _ _ _ _ _ c);have i:=p _ _ _ f1 f;exact .Em (FJ e 12 _ _ _ g c) i.2 i.1.1 i.1.2
 split at h
 ·obtain⟨s,j,c,h⟩:=aQ h;obtain⟨d,k,f,h⟩:=aQ h;obtain⟨_,q,n,h⟩:=aQ h;obtain⟨x,F,y,h⟩:=aQ h;rw[GC h];have f1:=g.dn (iJ _ _ _ _ c);have f3:=(f1.dn (TU _ _ _ _ f)).dn (gZ _ _ _ _ _ n);have v:gp d.2=ap/\(d.1=ak->d.2=[]):=by
   unfold pS at f;split at f
   ·obtain⟨l,G,z,f⟩:=aQ f;cases f;exact⟨JW e _ _ _ f1 z,fun C=>by cases C⟩
   ·cases f;exact⟨by decide,fun _=>rfl⟩
  exact .EP (uj e _ _ _ g c) v.1 v.2 (FJ e 12 _ _ _ f3 y)
 split at h
 ·obtain⟨s,j,c,h⟩:=aQ h;obtain⟨x,k,f,h⟩:=aQ h;rw[GC h];exact .Ev (uj e _ _ _ g c) (FJ e 12 _ _ _ (g.dn (iJ _ _ _ _ c)) f)
 split at h
 ·obtain⟨s,j,c,h⟩:=aQ h;obtain⟨o,k,f,h⟩:=aQ h;rw[GC h];exact .Gy (uj e _ _ _ g c) (uj e _ _ _ (g.dn (iJ _ _ _ _ c)) f)
 split at h
 ·obtain⟨s,j,c,h⟩:=aQ h;obtain⟨x,k,f,h⟩:=aQ h;rw[GC h];obtain⟨a,rfl,E⟩:=apc (uj e _ _ _ g c) (g.dn (iJ _ _ _ _ c)) f;exact .FL E
 split at h
 ·obtain⟨x,j,c,h⟩:=aQ h;rw[GC h];exact .Ez (FJ e 12 _ _ _ g c)
 ·obtain⟨s,j,c,h⟩:=aQ h;obtain⟨_,k,f,h⟩:=aQ h;obtain⟨x,q,n,h⟩:=aQ h;rw[GC h];exact .Eu (uj e _ _ _ hf c) (FJ e 12 _ _ _ ((hf.dn (iJ _ _ _ _ c)).dn (gZ _ _ _ _ _ f)) n)
theorem aps (e:Nat):∀k,Holds (fun l=>Wg k l/\k≠0) (block e k):=by
 intro k;induction k with
 | zero=>
  intro ts l r hf h;obtain⟨_,c,a,h⟩:=aQ h;cases h
 | succ k d=>
  intro ts l r hf h;obtain⟨_,c,a,h⟩:=aQ h;have b:=apk (QG (FQ e k)) (aeF (FQ e k) d) _ _ _ _ _ (hf.dn (gZ _ _ _ _ _ a)) (fun x hx=>by cases hx) h;exact⟨⟨by simpa using b.2,b.1⟩,by omega⟩
theorem agk (e:Nat):du (vu e):=by
 intro ts p r h;obtain⟨_,l,a,h⟩:=aQ h;obtain⟨s,m,c,h⟩:=aQ h;obtain⟨q,n,d,h⟩:=aQ h;obtain⟨t,o,g,h⟩:=aQ h;obtain⟨b,u,i,h⟩:=aQ h;obtain⟨f,v,j,h⟩:=aQ h;obtain⟨w,x,k,h⟩:=aQ h;cases h;exact(FQ e 12 _ _ _ k).trans ((Lm _ _ _ _ j).trans ((LH _ _ _ _ i).trans ((Jw _ _ _ _ g).trans ((Dm (A7 e) _ _ _ d).trans ((iJ _ _ _ _ c).trans (gZ _ _ _ _ _ a))))))
structure Ui (p:dV):Prop where
 name:dG p.name=ap
 Rc:p.params.length<=4
 OX:p.for_.length<=6
 par:∀q∈p.params,LN q
 res:p.result.name=ba []/\((p.result.type=0/\p.result.eo=[])\/((p.result.type=1\/p.result.type=2)/\gp p.result.eo=ap))
 TT:gp p.pQ=ap
 fo:∀s∈p.for_,dG s=ap
 body:Wg 12 p.body
theorem agm (e:Nat):Holds Ui (vu e):=by
 intro ts p r hf h;obtain⟨_,x,m,h⟩:=aQ h;obtain⟨s,y,g,h⟩:=aQ h;obtain⟨q,z,i,h⟩:=aQ h;obtain⟨t,B,a,h⟩:=aQ h;obtain⟨b,C,c,h⟩:=aQ h;obtain⟨f,E,d,h⟩:=aQ h;obtain⟨F,G,n,h⟩:=aQ h;cases h;have f1:=hf.dn (gZ _ _ _ _ _ m);have f2:=f1.dn (iJ _ _ _ _ g);have f3:=f2.dn (Dm (A7 e) _ _ _ i);have f4:=f3.dn (Jw _ _ _ _ a);have f5:=f4.dn (LH _ _ _ _ c);have f6:=f5.dn (Lm _ _ _ _ d);have j:=O4 (by omega) (A7 e) (XN e) f2 i;have o:t.name=ba []/\((t.type=0/\t.eo=[])\/((t.type=1\/t.type=2)/\gp t.eo=ap)):=by
  unfold vn at a;split at a
  ·obtain⟨k,K,u,a⟩:=aQ a;cases a;exact⟨rfl,.inr (Zb e _ _ _ f3 u)⟩
  ·cases a;exact⟨rfl,.inl ⟨rfl,rfl⟩⟩
 have v:gp b=ap:=by
  unfold vQ at c;split at c
  ·exact JW e _ _ _ (f4.dn (jJ _)) c
  ·cases c;decide
 have l:(∀s∈f,dG s=ap)/\f.length<=6:=by
  unfold vM at d;split at d
  ·exact RG (by omega) (iJ e) (uj e) (f5.dn (jJ _)) d
  ·cases d;exact⟨(fun s w=>by cases w),by simp⟩
 exact⟨uj e _ _ _ f1 g,j.2,l.2,j.1,o,v,l.1,(aps e 12 _ _ _ f6 n).1⟩
def CnX (c:ii):Prop:=(c.type=1\/c.type=2)/\dG c.name=ap/\gp c.eo=ap
structure DD (p:bL):Prop where
 xa:p.dl.length<=6
 xg:p.cZ.length<=10
 xd:p.bz.length<=6
 wZ:p.procs.length<=6
 zk:∀s∈p.dl,dG s=ap
 act:∀q∈p.cZ,dG q.1=ap/\dG q.2=ap
 chan:∀c∈p.bz,CnX c
 proc:∀q∈p.procs,Ui q
theorem Nm {d:Type}{f:d->Prop}{l g:List d}{P:List Tok->aA d}(i:Holds f P){ts r:List Tok}(hf:qM ts)(j:∀a∈l,f a)(hm:l.length<=m)(h:fT e m l P ts=.ok g r):(∀a∈g,f a)/\g.length<=m:=by
 unfold fT at h;split at h
 ·cases h
 ·rename_i p;obtain⟨a,q,k,n⟩:=aQ h;cases n;have o:=i _ _ _ hf k;refine⟨fun b c=> ?_,by simp;omega⟩;rcases List.mem_append.1 c with c | c
  ·exact j b c
  ·rw[List.mem_singleton.1 c];exact o
theorem aoB (e:Nat):Holds (fun s=>dG s=ap) (vO e):=by
 intro ts a r hf h;obtain⟨_,d,b,h⟩:=aQ h;obtain⟨s,f,c,h⟩:=aQ h;obtain⟨_,g,i,h⟩:=aQ h;cases h;exact uj e _ _ _ (hf.dn (gZ _ _ _ _ _ b)) c
theorem aqq (e:Nat):Holds (fun q=>dG q.1=ap/\dG q.2=ap) (vS e):=by
 intro ts a r hf h;obtain⟨_,f,c,h⟩:=aQ h;obtain⟨s,g,b,h⟩:=aQ h;obtain⟨t,i,d,h⟩:=aQ h;obtain⟨_,j,k,h⟩:=aQ h;cases h;have f1:=hf.dn (gZ _ _ _ _ _ c);exact⟨uj e _ _ _ f1 b,uj e _ _ _ (f1.dn (iJ _ _ _ _ b)) d⟩
theorem aoH (e:Nat):Holds CnX (td e):=by
 intro ts a r hf h;obtain⟨q,d,c,h⟩:=aQ h;obtain⟨_,f,g,h⟩:=aQ h;cases h;have b:=XN e _ _ _ (hf.dn (jJ ts)) c;exact⟨b.2.1,b.1,b.2.2⟩
theorem aho {p q:bL}{ts r:List Tok}(hf:qM ts)(b:DD p)(h:js e p ts=.ok q r):DD q/\r<:+ts:=by
 unfold js at h;split at h
 ·obtain⟨l,j,c,f⟩:=aQ h;cases f;have d:=Nm (aoB e) hf b.zk b.xa c;refine⟨⟨d.2,b.xg,b.xd,b.wZ,d.1,b.act,b.chan,b.proc⟩,?_⟩;unfold fT at c;split at c
  ·cases c
  ·obtain⟨a,k,g,i⟩:=aQ c;cases i;exact abN e _ _ _ g
 split at h
 ·obtain⟨l,j,c,f⟩:=aQ h;cases f;have d:=Nm (aqq e) hf b.act b.xg c;refine⟨⟨b.xa,d.2,b.xd,b.wZ,b.zk,d.1,b.chan,b.proc⟩,?_⟩;unfold fT at c;split at c
  ·cases c
  ·obtain⟨a,k,g,i⟩:=aQ c;cases i;exact acp e _ _ _ g
 split at h
 ·obtain⟨l,j,c,f⟩:=aQ h;cases f;have d:=Nm (aoH e) hf b.chan b.xd c;refine⟨⟨b.xa,b.xg,d.2,b.wZ,b.zk,b.act,d.1,b.proc⟩,?_⟩;unfold fT at c;split at c
  ·cases c
  ·obtain⟨a,k,g,i⟩:=aQ c;cases i;exact abO e _ _ _ g
 split at h
 ·obtain⟨l,j,c,f⟩:=aQ h;cases f;have d:=Nm (agm e) hf b.proc b.wZ c;refine⟨⟨b.xa,b.xg,b.xd,d.2,b.zk,b.act,b.chan,d.1⟩,?_⟩;unfold fT at c;split at c
  ·cases c
  ·obtain⟨a,k,g,i⟩:=aQ c;cases i;exact agk e _ _ _ g
 ·cases h
theorem agh:∀f p ts q r,qM ts->DD p->jq e f p ts=.ok q r->DD q:=by
 intro f;induction f with
 | zero=>intro p ts q r _ b h;cases h;exact b
 | succ f d=>
  intro p ts q r hf b h;unfold jq at h;split at h
  ·cases h;exact b
  ·obtain⟨a,j,g,i⟩:=aQ h;have c:=aho hf b g;exact d _ _ _ _ (hf.dn c.2) c.1 i
theorem ahe:DD ⟨[],[],[],[]⟩:=⟨by simp,by simp,by simp,by simp,(fun s h=>by cases h),(fun s h=>by cases h),(fun s h=>by cases h),(fun s h=>by cases h)⟩
theorem Xj {l:Lu}{p:bL}{r:List Tok}(h:qN l=.ok p r):DD p:=by
 unfold qN zV at h;split at h
 ·cases h
 ·rename_i d;obtain⟨ts,c,q,e⟩:∃ts c q,Lex.jK l=(ts,c,q):=⟨_,_,_,rfl⟩;rw[e] at h d;simp at d;subst d;obtain⟨a,s,f,b⟩:=aQ h;unfold vp at b;split at b
  ·cases b;exact agh _ _ _ _ _ (Xa e) ahe f
  ·cases b
end ag
open ag (Tok Po Tr nx bI aO ba aA aV cV ii dV bL)
inductive eO:aV->Prop
 | mk {k p:Int} {s o:Bt} {d:Bool} {l:List Po} {e:Tr} {a b:List aV} (he:k≠6->ag.dZ 12 e=true) (ka:∀x∈a,eO x) (kb:∀x∈b,eO x):eO (.mk k p s o d l e a b)
theorem nD {d:Bool}{e:Tr}{a b:List aV}:eO (.mk k p s o d l e a b)↔(k≠6->ag.dZ 12 e=ap)/\(∀x∈a,eO x)/\(∀x∈b,eO x):=
 ⟨fun h=>by cases h with | mk he ka kb=>exact⟨he,ka,kb⟩,fun h=>.mk h.1 h.2.1 h.2.2⟩
theorem aey {d:Bool}{e:Tr}{a b:List aV}(h:ag.mj (m+1) (.mk k p s o d l e a b)):ag.gp l=ap/\a.length<=20/\b.length<=20/\(∀x∈a,ag.mj m x)/\(∀x∈b,ag.mj m x)/\
 ((k=3/\m≠0/\d=ak/\l=[])\/(k=4/\m≠0/\d=ak/\l=[]/\b=[])\/(k≠3/\k≠4/\k=1/\d=ap/\a=[]/\b=[])\/(k≠3/\k≠4/\d=ak/\l=[]/\a=[]/\b=[])):=by
 have c:ag.gp []=ap:=(by decide);have n0:∀x∈([]:List aV),ag.mj m x:=fun x hx=>(by cases hx);cases h with
 | EP g n q f=>
  refine⟨n,by simp,by simp,n0,n0,?_⟩;cases d with
  | true=>exact .inr (.inr (.inl ⟨by decide,by decide,rfl,rfl,rfl,rfl⟩))
  | false=>exact .inr (.inr (.inr ⟨by decide,by decide,rfl,q rfl,rfl,rfl⟩))
 | Eu g f=>exact⟨c,by simp,by simp,n0,n0,.inr (.inr (.inr ⟨by decide,by decide,rfl,rfl,rfl,rfl⟩))⟩
 | Be f hm i r j t=>exact⟨c,i,r,j,t,.inl ⟨rfl,hm,rfl,rfl⟩⟩
 | Em f hm i j=>exact⟨c,i,by simp,j,n0,.inr (.inl ⟨rfl,hm,rfl,rfl,rfl⟩)⟩
 | Ev g f=>exact⟨c,by simp,by simp,n0,n0,.inr (.inr (.inr ⟨by decide,by decide,rfl,rfl,rfl,rfl⟩))⟩
 | Gy g u=>exact⟨c,by simp,by simp,n0,n0,.inr (.inr (.inr ⟨by decide,by decide,rfl,rfl,rfl,rfl⟩))⟩
 | FL f=>exact⟨c,by simp,by simp,n0,n0,.inr (.inr (.inr ⟨by decide,by decide,rfl,rfl,rfl,rfl⟩))⟩
 | Ez f=>exact⟨c,by simp,by simp,n0,n0,.inr (.inr (.inr ⟨by decide,by decide,rfl,rfl,rfl,rfl⟩))⟩
theorem QD {d:Bool}{e:Tr}{a b:List aV}(h:ag.mj (m+1) (.mk k p s o d l e a b)):(k=6/\ag.dG s=ap/\ag.dG o=ap/\e=ag.qR)\/((k=1\/k=2\/k=5)/\ag.dG s=ap/\o=ba []/\ag.FE e)\/((k=3\/k=4\/k=8)/\s=ba []/\o=ba []/\ag.FE e)\/(k=7/\s=ba []/\o=ba []/\ag.FE e/\∃q g i,e=.mk 4 q 0 0 g [] i):=by
 cases h with
 | EP f t u c=>exact .inr (.inl ⟨.inl rfl,f,rfl,c⟩)
 | Eu f c=>exact .inr (.inl ⟨.inr (.inl rfl),f,rfl,c⟩)
 | Be c hm j v n w=>exact .inr (.inr (.inl ⟨.inl rfl,rfl,rfl,c⟩))
 | Em c hm j n=>exact .inr (.inr (.inl ⟨.inr (.inl rfl),rfl,rfl,c⟩))
 | Ev f c=>exact .inr (.inl ⟨.inr (.inr rfl),f,rfl,c⟩)
 | Gy f r=>exact .inl ⟨rfl,f,r,rfl⟩
 | FL c=>exact .inr (.inr (.inr ⟨rfl,rfl,rfl,c,_,_,_,rfl⟩))
 | Ez c=>exact .inr (.inr (.inl ⟨.inr (.inr rfl),rfl,rfl,c⟩))
theorem bK.pO {t u:aV}(h:bK w S t V)(g:bK w S' u V):t=u:=by
 induction h generalizing u with
 | @mk k p s o d l e a b r v x y IA Iz hs ho z m B C E F _ _ G K=>
  generalize c:[Value.int I k,A I p,H s,H o,az d,r]++y++[v,x]=V at g;cases g with
  | @mk k' p' s' o' d' l' e' a' b' rH ad ae af ai ao gs go L n N P Q R T W=>
   have n1:=m.len;have n2:=n.len;simp only[List.cons_append,List.nil_append,List.cons.injEq,Value.int.injEq,Value.string.injEq,Value.bool.injEq,true_and] at c;obtain⟨rfl,rfl,rfl,rfl,rfl,rfl,c⟩:=c;obtain⟨rfl,q⟩:=List.append_inj c (by omega);simp only[List.cons.injEq,and_true] at q;obtain⟨rfl,rfl⟩:=q;obtain rfl:=z.pO L;obtain rfl:=m.pO n;obtain rfl:=B.pO N;obtain rfl:=E.pO Q;have X:=List.ext_getElem (C.symm.trans P) fun i f j=>G i f (by omega) (T i j (by omega));have e2:=List.ext_getElem (F.symm.trans R) fun i f j=>K i f (by omega) (W i j (by omega));rw[X,e2]
def Dy (w:au)(b off n:Nat)(a:List aV):Prop:=n=a.length/\∃(c:Nat) (css:List (Lv)),qy w (fun b=>b<w.heap.size) 15 (Z (Y b off U)) b off n c css/\css.length=a.length/\∀i (h:i<a.length) (h':i<css.length),bK w (fun b=>b<w.heap.size) a[i] css[i]
theorem Dy.pO {a k:List aV}(h:Dy w b off n a)(g:Dy w b off n k):a=k:=by
 obtain⟨v,c,o,l,x,p⟩:=h;obtain⟨y,z,q,m,B,gk⟩:=g;have e:o=q:=(by refine List.ext_getElem (by omega) fun i d f=> ?_;refine List.ext_getElem ((l.A0 i d).trans (m.A0 i f).symm) fun j r s=> ?_;have t:=l.cell i d j _ (List.getElem?_eq_getElem r);have u:=m.cell i f j _ (List.getElem?_eq_getElem s);exact Option.some.inj (t.symm.trans u));subst e;exact List.ext_getElem (by omega) fun i d f=>(p i d (by omega)).pO (gk i f (by omega))
def mJ (w:au)(K:List PK)(d:Nat):Prop:=∀p∈K,d<=p.2.2.2->∀a,Dy w p.1 p.2.1 p.2.2.1 a->∀x∈a,eO x
theorem akM {K e:List PK}{c:PK}{a:List aV}(i:mJ X K d)(j:mJ X e (d+1))(hn:∀p∈e,p∈lD K c\/d+1<=p.2.2.2)(k:Dy X c.1 c.2.1 c.2.2.1 a)(l:∀x∈a,eO x):mJ X e d:=by
 intro p g m b f;by_cases h:d+1<=p.2.2.2
 ·exact j p g h b f
 ·rcases hn p g with h1 | h1
  ·rcases vy.1 h1 with h2 | rfl
   ·exact i p h2 m b f
   ·have:=k.pO f;subst this;exact l
  ·omega
theorem akN {K:List PK}{a:PK}(b:mJ X K d)(e:a.2.2.2=d):mJ X (lD K a) (d+1):=by
 intro p c f;rcases vy.1 c with h | rfl
 ·exact b p h (by omega)
 ·omega
structure eH (B B2:Nat)(w w':au):Prop where
 os:w'.os=w.os
 tape:w'.tape=w.tape
 output:w'.output=w.output
 size:w.heap.size<=w'.heap.size
 block:∀k,k<w.heap.size->k≠B->k≠B2->w'.heap[k]? =w.heap[k]?
theorem eH.bm (h:Bl w w'):eH B B2 w w':=⟨h.os,h.tape,h.output,h.size,fun k a _ _=>h.block k a⟩
theorem eH.Rj (h:w.grownBy w' (Z B)):eH B B2 w w':=⟨h.os,h.tape,h.output,h.size,fun k a b _=>h.block k a (by simp;exact b)⟩
theorem eH.Ri (h:w.grownBy w' (Z B2)):eH B B2 w w':=⟨h.os,h.tape,h.output,h.size,fun k a _ b=>h.block k a (by simp;exact b)⟩
theorem eH.trans {a b c:au}(h:eH B B2 a b)(g:eH B B2 b c):eH B B2 a c:=⟨g.os.trans h.os,g.tape.trans h.tape,g.output.trans h.output,fC h.size g.size,fun k d e f=>(g.block k (gD d h.size) e f).trans (h.block k d e f)⟩
theorem eH.drew (h:eH B B2 w w')(n:Nat):eH B B2 w (w'.drewN n):=⟨h.os,h.tape,h.output,h.size,h.block⟩
theorem eH.Cy (h:eH B B2 (w.drewN n) w'):eH B B2 w w':=⟨h.os,h.tape,h.output,h.size,h.block⟩
theorem eH.below {b:au}(a:Bl X W)(h:eH B B2 W b)(d:X.heap.size<=B)(e:X.heap.size<=B2):Bl X b:=
 ⟨h.os.trans a.os,h.tape.trans a.tape,h.output.trans a.output,fC a.size h.size,fun k c=>(h.block k (gD c a.size) (by omega) (by omega)).trans (a.block k c)⟩
theorem vj {d:Bool}{e:Tr}{a b:List aV}(h:bK w S (.mk k p s o d l e a b) V):
 ∃(n:Oa) (q:Nat) (z0 z1 z2 c:Int) (f:Bt) (g:Oa) (i d5:Nat) (j:Oa) (m d6:Nat) (r:Oa) (ac:Nat) (t:Oa) (u:Nat),V=[A I k,A I p,H s,H o,az d,O n l.length q,A I z0,A I z1,A I z2,A I c,H f,O g i d5,O j m d6,O r a.length ac,O t b.length u]/\s.size<=maxLen/\o.size<=maxLen/\dw w S (O n l.length q) l/\aS w S e [A I z0,A I z1,A I z2,A I c,H f,O g i d5,O j m d6]/\bH bK w S 15 (O r a.length ac) a/\bH bK w S 15 (O t b.length u) b:=by
 obtain⟨K,B,L,N,rfl,C,E,v,x,y,z⟩:=h.rows;obtain⟨z0,z1,z2,c,f,g,i,d5,j,m,d6,rfl⟩:∃(z0 z1 z2 c:Int) (f:Bt) (g:Oa) (i d5:Nat) (j:Oa) (m d6:Nat),B=[A I z0,A I z1,A I z2,A I c,H f,O g i d5,O j m d6]:=by
  cases x with
  | mk P F G Q R=>
   obtain⟨T,W,rfl⟩:=F.val;obtain⟨X,y6,rfl⟩:=G.val;exact⟨_,_,_,_,_,_,_,_,_,_,_,rfl⟩
 obtain⟨n,q,rfl⟩:=v.val;obtain⟨r,ac,rfl⟩:=y.val;obtain⟨t,u,rfl⟩:=z.val;exact⟨_,_,_,_,_,_,_,_,_,_,_,_,_,_,_,_,_,rfl,C,E,v,x,y,z⟩
open ag (aV cV ii dV bL Tr Po ba)
def Jb (a:aV):Prop:=∀(w:au) (S S':Np) (ca cb:Lv),bK w S a ca->bK w S' a cb->aC prog 68 #[.agg ca.toArray,.agg cb.toArray] w fun e w'=>e=aE (az ap)/\Bl w w'
theorem JB {a:aV}(h:bK w S a V):∃(c:Int) (f:Int) (g:Bt) (i:Bt) (j:Bool) (m:Oa) (n q:Nat) (r:Int) (t:Int) (u:Int) (v:Int) (x:Bt) (y:Oa) (z B:Nat) (C:Oa) (E F:Nat) (G:Oa) (K L:Nat) (N:Oa) (P Q:Nat),V=[A I c,A I f,H g,H i,az j,O m n q,A I r,A I t,A I u,A I v,H x,O y z B,O C E F,O G K L,O N P Q]:=by
 obtain⟨k,p,s,o,d,l,e,a,b⟩:=a;obtain⟨R,T,W,X,z2,z3,z4,z5,m5,d5,z6,m6,d6,ao,ac,bo,bc,rfl,_⟩:=vj h;exact⟨_,_,_,_,_,_,_,_,_,_,_,_,_,_,_,_,_,_,_,_,_,_,_,_,_,rfl⟩
theorem anx {a:List aV}(C:∀i (h:i<a.length),Jb a[i])(hA:bH bK w S 15 N a)(hB:bH bK w S' 15 G a):
 aC prog 67 #[N,G,.func (.func 68) #[] #[]] w fun e w'=>e=aE (az ap)/\Bl w w':=by
 obtain⟨ad,⟨ao,ab,bC,ac,rfl,p⟩,q,E⟩:=hA;obtain⟨gd,⟨bo,F,aW,bc,rfl,K⟩,u,L⟩:=hB;obtain⟨m,hm⟩:=nm a.length;have lj:m<=maxLen:=(by rw[hm,<-q];exact fC p.cap p.mx);have HK:=am C;have v:=am p;have x:=am K;have qI:=am E;have ua:=am L;have HM:=am hm;have lW:=am q;have su:=am u;have eg:=enters_of func68 (by kernel_rfl) rfl;rw[q,<-hm,u,<-hm];unfold maxLen at lj;clear C hm p K q u E L;go_enter func67,ntmps67;go_wp2;go_loopw [17] (fun i wr=>∃j:Nat,j<=m/\i=A I j/\ah (Bl w wr)) (fun i _=>m - (intOf i).toNat);case atStart=>exact⟨0,eJ _,rfl,aF _ _⟩
 case round=>
  obtain⟨j,hj,rfl,r⟩:=hrel;by_cases aK:j<m
  ·have o:j<a.length:=(by have:=HM.out;omega);have P:j<ad.length:=(by rw[lW.out];exact o);have Q:j<gd.length:=(by rw[su.out];exact o);obtain rfl:=v.dR (by omega);obtain rfl:=x.dR (by omega);have s:=qI.out j o P;have t:=ua.out j o Q;have d:=fun i y=>v.cell j P i y;have f:=fun i y=>x.cell j Q i y;have g:=v.lt (by omega);have k:=x.lt (by omega);have R:=HK.out j o;obtain⟨T,x1,x2,x3,x4,x5,jT,j7,x6,x7,x8,x9,fS,fR,yF,zh,fQ,yE,zg,fP,yD,ze,fO,yC,zb,hx⟩:=JB s;obtain⟨V,v1,v2,v3,v4,v5,RA,Tw,v6,v7,v8,v9,ae,af,ai,ar,av,ax,ay,aG,aH,aI,aJ,aM,aX,W⟩:=JB t;rw[hx] at s d;rw[W] at t f;obtain⟨c,_⟩:=oX r.out;have lw:=r.size;have p0:wr.cell? (Y ab (bC+j*15) U)=Z (A I T):=(c _ _ g).trans (d 0 _ rfl);have q0:wr.cell? (Y F (aW+j*15) U)=Z (A I V):=(c _ _ k).trans (f 0 _ rfl);have p1:=(c _ _ g).trans (d 1 _ rfl);have q1:=(c _ _ k).trans (f 1 _ rfl);have p2:=(c _ _ g).trans (d 2 _ rfl);have q2:=(c _ _ k).trans (f 2 _ rfl);have p3:=(c _ _ g).trans (d 3 _ rfl);have q3:=(c _ _ k).trans (f 3 _ rfl);have p4:=(c _ _ g).trans (d 4 _ rfl);have q4:=(c _ _ k).trans (f 4 _ rfl);have p5:=(c _ _ g).trans (d 5 _ rfl);have q5:=(c _ _ k).trans (f 5 _ rfl);have p6:=(c _ _ g).trans (d 6 _ rfl);have q6:=(c _ _ k).trans (f 6 _ rfl);have p7:=(c _ _ g).trans (d 7 _ rfl);have q7:=(c _ _ k).trans (f 7 _ rfl);have p8:=(c _ _ g).trans (d 8 _ rfl);have q8:=(c _ _ k).trans (f 8 _ rfl);have p9:=(c _ _ g).trans (d 9 _ rfl);have q9:=(c _ _ k).trans (f 9 _ rfl);have GV:=(c _ _ g).trans (d 10 _ rfl);have Q7:=(c _ _ k).trans (f 10 _ rfl);have GU:=(c _ _ g).trans (d 11 _ rfl);have Q6:=(c _ _ k).trans (f 11 _ rfl);have GT:=(c _ _ g).trans (d 12 _ rfl);have Q5:=(c _ _ k).trans (f 12 _ rfl);have GR:=(c _ _ g).trans (d 13 _ rfl);have Q4:=(c _ _ k).trans (f 13 _ rfl);have GQ:=(c _ _ g).trans (d 14 _ rfl);have Q3:=(c _ _ k).trans (f 14 _ rfl)
   obtain⟨wz,z⟩:=nm ((wr.alloc (M #[A I T,A I x1,H x2,H x3,az x4,O x5 jT j7,A I x6,A I x7,A I x8,A I x9,H fS,O fR yF zh,O fQ yE zg,O fP yD ze,O fO yC zb] 109)).alloc (M #[A I V,A I v1,H v2,H v3,az v4,O v5 RA Tw,A I v6,A I v7,A I v8,A I v9,H ae,O af ai ar,O av ax ay,O aG aH aI,O aJ aM aX] 109));have X:=lU z;have n:=r.trans (X.mono lw);have rT:=R wz (fun b=>S b/\b<w.heap.size) (fun b=>S' b/\b<w.heap.size) _ _ (iA.keeps (iA.mono s fun b l B=>⟨l,B⟩) ⟨n.size,fun b l _=>n.block b l.2⟩) (iA.keeps (iA.mono t fun b l B=>⟨l,B⟩) ⟨n.size,fun b l _=>n.block b l.2⟩);have dD:=am n;have kZ:=am z;have lr:ab<wr.heap.size:=(by omega);have oe:F<wr.heap.size:=(by omega);clear R s t d f hx W c X n z;go_wp2_with fail;rw[<-kZ.out];refine rT.mono ?_;rintro e w2 ⟨rfl,aT⟩;have kB:=bt dD aT;clear aT rT;go_wp2;go_roundw;case rel=>exact⟨j+1,by omega,by go_num,kB⟩
   case measure=>simp[intOf];omega
  ·obtain rfl:j=m:=(by omega);go_wp2;go_ret;exact⟨rfl,r.out⟩
def EqC (a:ii):Prop:=∀(w:au) (S S':Np) (ca cb:Lv),pu w S a ca->pu w S' a cb->aC prog 24 #[.agg ca.toArray,.agg cb.toArray] w fun e w'=>e=aE (az ap)/\Bl w w'
theorem XV {a:ii}(h:pu w S a V):∃(b:Int) (c:Bt) (d:Bool) (e:Int) (f:Oa) (g i:Nat),V=[A I b,H c,az d,A I e,O f g i]:=by
 obtain⟨k,rfl,_,j⟩:=h;obtain⟨l,m,rfl⟩:=j.val;exact⟨_,_,_,_,_,_,_,rfl⟩
theorem anC {a:List ii}(C:∀i (h:i<a.length),EqC a[i])(hA:bH pu w S 5 N a)(hB:bH pu w S' 5 G a):
 aC prog 23 #[N,G,.func (.func 24) #[] #[]] w fun e w'=>e=aE (az ap)/\Bl w w':=by
 obtain⟨ad,⟨ao,ab,bC,ac,rfl,p⟩,q,E⟩:=hA;obtain⟨gd,⟨bo,F,aW,bc,rfl,K⟩,u,L⟩:=hB;obtain⟨m,hm⟩:=nm a.length;have lj:m<=maxLen:=(by rw[hm,<-q];exact fC p.cap p.mx);have HK:=am C;have v:=am p;have x:=am K;have qI:=am E;have ua:=am L;have HM:=am hm;have lW:=am q;have su:=am u;have eg:=enters_of func24 (by kernel_rfl) rfl;rw[q,<-hm,u,<-hm];unfold maxLen at lj;clear C hm p K q u E L;go_enter func23,ntmps23;go_wp2;go_loopw [17] (fun i wr=>∃j:Nat,j<=m/\i=A I j/\ah (Bl w wr)) (fun i _=>m - (intOf i).toNat);case atStart=>exact⟨0,eJ _,rfl,aF _ _⟩
 case round=>
  obtain⟨j,hj,rfl,r⟩:=hrel;by_cases aK:j<m
  ·have l:j<a.length:=(by have:=HM.out;omega);have P:j<ad.length:=(by rw[lW.out];exact l);have Q:j<gd.length:=(by rw[su.out];exact l);obtain rfl:=v.dR (by omega);obtain rfl:=x.dR (by omega);have s:=qI.out j l P;have t:=ua.out j l Q;have d:=fun i y=>v.cell j P i y;have f:=fun i y=>x.cell j Q i y;have n:=v.lt (by omega);have o:=x.lt (by omega);have R:=HK.out j l;obtain⟨T,x1,x2,x3,x4,Rz,Tv,hx⟩:=XV s;obtain⟨V,v1,v2,v3,v4,ae,af,W⟩:=XV t;rw[hx] at s d;rw[W] at t f;obtain⟨c,_⟩:=oX r.out;have lw:=r.size;have p0:wr.cell? (Y ab (bC+j*5) U)=Z (A I T):=(c _ _ n).trans (d 0 _ rfl);have q0:wr.cell? (Y F (aW+j*5) U)=Z (A I V):=(c _ _ o).trans (f 0 _ rfl);have p1:=(c _ _ n).trans (d 1 _ rfl);have q1:=(c _ _ o).trans (f 1 _ rfl);have p2:=(c _ _ n).trans (d 2 _ rfl);have q2:=(c _ _ o).trans (f 2 _ rfl);have p3:=(c _ _ n).trans (d 3 _ rfl);have q3:=(c _ _ o).trans (f 3 _ rfl);have p4:=(c _ _ n).trans (d 4 _ rfl);have q4:=(c _ _ o).trans (f 4 _ rfl);obtain⟨wz,z⟩:=nm ((wr.alloc (M #[A I T,H x1,az x2,A I x3,O x4 Rz Tv] 57)).alloc (M #[A I V,H v1,az v2,A I v3,O v4 ae af] 57));have X:=lU z;have k:=r.trans (X.mono lw);have rT:=R wz (fun b=>S b/\b<w.heap.size) (fun b=>S' b/\b<w.heap.size) _ _ (gy.keeps (gy.mono s fun b g B=>⟨g,B⟩) ⟨k.size,fun b g _=>k.block b g.2⟩) (gy.keeps (gy.mono t fun b g B=>⟨g,B⟩) ⟨k.size,fun b g _=>k.block b g.2⟩);have dD:=am k;have kZ:=am z;have lr:ab<wr.heap.size:=(by omega);have oe:F<wr.heap.size:=(by omega);clear R s t d f hx W c X k z;go_wp2_with fail;rw[<-kZ.out];refine rT.mono ?_;rintro e w2 ⟨rfl,aT⟩;have kB:=bt dD aT;clear aT rT;go_wp2;go_roundw;case rel=>exact⟨j+1,by omega,by go_num,kB⟩
   case measure=>simp[intOf];omega
  ·obtain rfl:j=m:=(by omega);go_wp2;go_ret;exact⟨rfl,r.out⟩
theorem yk {l:List Bt}(h:kv w S v l):∃a c,v=O a l.length c:=by
 obtain⟨a,c,b⟩:=h.row.val;exact⟨a,c,by simpa[wU] using b⟩
def EqQ (a:dV):Prop:=∀(w:au) (S S':Np) (ca cb:Lv),nH w S a ca->nH w S' a cb->aC prog 26 #[.agg ca.toArray,.agg cb.toArray] w fun e w'=>e=aE (az ap)/\Bl w w'
theorem XT {a:dV}(h:nH w S a V):∃(b:Int) (c:Bt) (d:Oa) (e f:Nat) (g:Bt) (i:Int) (j:Oa) (k l:Nat) (m:Oa) (n o:Nat) (p:Oa) (q r:Nat) (s:Oa) (t u:Nat),V=[A I b,H c,O d e f,H g,A I i,O j k l,O m n o,O p q r,O s t u]:=by
 obtain⟨C,rl,E,F,G,rfl,_,_,v,x,y,z,B⟩:=h;obtain⟨K,L,rfl⟩:=v.val;obtain⟨N,P,rfl⟩:=x.val;obtain⟨Q,R,rfl⟩:=y.val;obtain⟨T,W,rfl⟩:=yk z;obtain⟨X,yc,rfl⟩:=B.val;exact⟨_,_,_,_,_,_,_,_,_,_,_,_,_,_,_,_,_,_,_,rfl⟩
theorem anz {a:List dV}(C:∀i (h:i<a.length),EqQ a[i])(hA:bH nH w S 9 N a)(hB:bH nH w S' 9 G a):
 aC prog 25 #[N,G,.func (.func 26) #[] #[]] w fun e w'=>e=aE (az ap)/\Bl w w':=by
 obtain⟨ad,⟨ao,ab,bC,ac,rfl,p⟩,q,E⟩:=hA;obtain⟨gd,⟨bo,F,aW,bc,rfl,K⟩,u,L⟩:=hB;obtain⟨m,hm⟩:=nm a.length;have lj:m<=maxLen:=(by rw[hm,<-q];exact fC p.cap p.mx);have HK:=am C;have v:=am p;have x:=am K;have qI:=am E;have ua:=am L;have HM:=am hm;have lW:=am q;have su:=am u;have eg:=enters_of func26 (by kernel_rfl) rfl;rw[q,<-hm,u,<-hm];unfold maxLen at lj;clear C hm p K q u E L;go_enter func25,ntmps25;go_wp2;go_loopw [17] (fun i wr=>∃j:Nat,j<=m/\i=A I j/\ah (Bl w wr)) (fun i _=>m - (intOf i).toNat);case atStart=>exact⟨0,eJ _,rfl,aF _ _⟩
 case round=>
  obtain⟨j,hj,rfl,r⟩:=hrel;by_cases aK:j<m
  ·have o:j<a.length:=(by have:=HM.out;omega);have P:j<ad.length:=(by rw[lW.out];exact o);have Q:j<gd.length:=(by rw[su.out];exact o);obtain rfl:=v.dR (by omega);obtain rfl:=x.dR (by omega);have s:=qI.out j o P;have t:=ua.out j o Q;have d:=fun i y=>v.cell j P i y;have f:=fun i y=>x.cell j Q i y;have g:=v.lt (by omega);have k:=x.lt (by omega);have R:=HK.out j o;obtain⟨T,x1,x2,EK,FK,x3,x4,x5,jT,j7,x6,oL,oV,x7,Ry,Tu,x8,Rx,Tt,hx⟩:=XT s;obtain⟨V,v1,v2,RB,Ty,v3,v4,v5,RA,Tw,v6,ae,af,v7,ai,ar,v8,av,ax,W⟩:=XT t;rw[hx] at s d;rw[W] at t f;obtain⟨c,_⟩:=oX r.out;have lw:=r.size;have p0:wr.cell? (Y ab (bC+j*9) U)=Z (A I T):=(c _ _ g).trans (d 0 _ rfl);have q0:wr.cell? (Y F (aW+j*9) U)=Z (A I V):=(c _ _ k).trans (f 0 _ rfl);have p1:=(c _ _ g).trans (d 1 _ rfl);have q1:=(c _ _ k).trans (f 1 _ rfl);have p2:=(c _ _ g).trans (d 2 _ rfl);have q2:=(c _ _ k).trans (f 2 _ rfl);have p3:=(c _ _ g).trans (d 3 _ rfl);have q3:=(c _ _ k).trans (f 3 _ rfl);have p4:=(c _ _ g).trans (d 4 _ rfl);have q4:=(c _ _ k).trans (f 4 _ rfl);have p5:=(c _ _ g).trans (d 5 _ rfl);have q5:=(c _ _ k).trans (f 5 _ rfl);have p6:=(c _ _ g).trans (d 6 _ rfl);have q6:=(c _ _ k).trans (f 6 _ rfl);have p7:=(c _ _ g).trans (d 7 _ rfl);have q7:=(c _ _ k).trans (f 7 _ rfl);have p8:=(c _ _ g).trans (d 8 _ rfl);have q8:=(c _ _ k).trans (f 8 _ rfl);obtain⟨wz,z⟩:=nm ((wr.alloc (M #[A I T,H x1,O x2 EK FK,H x3,A I x4,O x5 jT j7,O x6 oL oV,O x7 Ry Tu,O x8 Rx Tt] 65)).alloc (M #[A I V,H v1,O v2 RB Ty,H v3,A I v4,O v5 RA Tw,O v6 ae af,O v7 ai ar,O v8 av ax] 65));have X:=lU z;have n:=r.trans (X.mono lw);have rT:=R wz (fun b=>S b/\b<w.heap.size) (fun b=>S' b/\b<w.heap.size) _ _ (gh.keeps (gh.mono s fun b l B=>⟨l,B⟩) ⟨n.size,fun b l _=>n.block b l.2⟩) (gh.keeps (gh.mono t fun b l B=>⟨l,B⟩) ⟨n.size,fun b l _=>n.block b l.2⟩);have dD:=am n
   have kZ:=am z;have lr:ab<wr.heap.size:=(by omega);have oe:F<wr.heap.size:=(by omega);clear R s t d f hx W c X n z;go_wp2_with fail;rw[<-kZ.out];refine rT.mono ?_;rintro e w2 ⟨rfl,aT⟩;have kB:=bt dD aT;clear aT rT;go_wp2;go_roundw;case rel=>exact⟨j+1,by omega,by go_num,kB⟩
   case measure=>simp[intOf];omega
  ·obtain rfl:j=m:=(by omega);go_wp2;go_ret;exact⟨rfl,r.out⟩
theorem bH.low {d:Type}{El:au->(Np)->d->Lv->Prop}{sz:Nat}{l:List d}(K:ng El sz)(h:bH El w S sz v l)(a:Bl w w'):bH El w' (fun b=>S b/\b<w.heap.size) sz v l:=by
 have kp:aP (fun b=>S b/\b<w.heap.size) _ _:=⟨a.size,fun b h _=>a.block b h.2⟩;have e:bH _ _ (fun b=>S b/\b<w.heap.size) _ _ _:=bH.mono (fun h=>K.mono h fun b a c=>⟨a,c⟩) h fun b a c=>⟨a,c⟩;exact e.keeps (fun h=>K.keeps h kp) kp
theorem T1 {a:List aV}(b:∀i (h:i<a.length),Jb a[i])(c:bH bK w S 15 N a)(d:bH bK w S' 15 G a):
 aC prog 27 #[N,G] w fun e w'=>e=aE (az ap)/\Bl w w':=by
 have f:=anx b c d;clear c d b;go_enter func27,ntmps27;go_wp2_with fail;refine f.mono ?_;rintro x k ⟨rfl,g⟩;have j:=am g;clear g f;go_wp2;go_ret;exact⟨rfl,j.out⟩
theorem dm {a b c d f g i j k l m o p q r:aw}{e:TypeId}(h:w.heap[n]? =Z (M #[a,b,c,d,f,g,i,j,k,l,m,o,p,q,r] e)):w.cell? (Y n 0 U)=Z a/\w.cell? (Y n 1 U)=Z b/\w.cell? (Y n 2 U)=Z c/\w.cell? (Y n 3 U)=Z d/\w.cell? (Y n 4 U)=Z f/\w.cell? (Y n 5 U)=Z g/\w.cell? (Y n 6 U)=Z i/\w.cell? (Y n 7 U)=Z j/\w.cell? (Y n 8 U)=Z k/\w.cell? (Y n 9 U)=Z l/\w.cell? (Y n 10 U)=Z m/\w.cell? (Y n 11 U)=Z o/\w.cell? (Y n 12 U)=Z p/\w.cell? (Y n 13 U)=Z q/\w.cell? (Y n 14 U)=Z r:=by
 refine⟨?_,?_,?_,?_,?_,?_,?_,?_,?_,?_,?_,?_,?_,?_,?_⟩<;>simp[World.cell?,h]
theorem apV {d:Bool}{e:Tr}{a b:List aV}(F:∀i (h:i<a.length),Jb a[i])(G:∀i (h:i<b.length),Jb b[i]):Jb (.mk k p s o d l e a b):=by
 intro w S S' R cb K c;obtain⟨lo,lc,z0,z1,z2,z3,z4,z5,m5,d5,z6,m6,d6,L,ac,N,P,rfl,_,_,_,Q,T,V⟩:=vj K;obtain⟨W,X,y0,y1,y2,y3,y4,y5,n5,e5,y6,n6,e6,v,y,z,B,rfl,_,_,_,pI,ad,ae⟩:=vj c;obtain⟨m,j⟩:=nm ((w.alloc (M #[A I k,A I p,H s,H o,az d,O lo l.length lc,A I z0,A I z1,A I z2,A I z3,H z4,O z5 m5 d5,O z6 m6 d6,O L a.length ac,O N b.length P] 109)).alloc (M #[A I k,A I p,H s,H o,az d,O W l.length X,A I y0,A I y1,A I y2,A I y3,H y4,O y5 n5 e5,O y6 n6 e6,O v a.length y,O z b.length B] 109));have n:=lU j;have q:=ab j;have r:m.heap[w.heap.size+1]? =Z (M #[A I k,A I p,H s,H o,az d,O W l.length X,A I y0,A I y1,A I y2,A I y3,H y4,O y5 n5 e5,O y6 n6 e6,O v a.length y,O z b.length B] 109):=(by rw[j];exact cu _ _ _ (by simp));have dt:=am n;have kp:∀w',Bl w w'->aP (fun b=>S b/\b<w.heap.size) w w':=fun w' c=>⟨c.size,fun b h _=>c.block b h.2⟩;have Y6:∀w',Bl w w'->aP (fun b=>S' b/\b<w.heap.size) w w':=fun w' c=>⟨c.size,fun b h _=>c.block b h.2⟩;have hE:=aeJ _ e (aD _) m (fun b=>S b/\b<w.heap.size) (fun b=>S' b/\b<w.heap.size) _ _ (aS.keeps (Q.mono fun b c C=>⟨c,C⟩) (kp m n)) (aS.keeps (pI.mono fun b c C=>⟨c,C⟩) (Y6 m n));have HA:ah (∀w',Bl w w'->aC prog 27 #[O L a.length ac,O v a.length y] w' fun e E=>e=aE (az ap)/\Bl w' E):=fun w' c=>T1 F (T.low iA c) (ad.low iA c);have HB:ah (∀w',Bl w w'->aC prog 27 #[O N b.length P,O z b.length B] w' fun e E=>e=aE (az ap)/\Bl w' E):=fun w' c=>T1 G (V.low iA c) (ae.low iA c);have x0:=dm q;have v0:=dm r;have l1:=J q;have l2:=J r;have HZ:=am (aj q r);clear K c Q pI T ad V ae F G n kp Y6 q r;go_enter func68,ntmps68;go_upto_region 1 with fail
 rw[<-j];clear j;go_wp2_with fail;refine hE.mono ?_;rintro x w1 ⟨rfl,t⟩;have cX:=bt dt t;have f:=(t.block _ l1).trans HZ.1;have g:=(t.block _ l2).trans HZ.2;have oA:=(dm f).2.2.2.2.2.2.2.2.2.2.2.2.2.1;have Dv:=(dm g).2.2.2.2.2.2.2.2.2.2.2.2.2.1;have g1:=J f;have g2:=J g;have o7:=am (aj f g);clear t hE f g x0 v0 l1 l2;go_wp2_with fail;refine(HA.out _ cX.out).mono ?_;rintro x w2 ⟨rfl,u⟩;have dD:=bt cX u;have f:=(u.block _ g1).trans o7.1;have g:=(u.block _ g2).trans o7.2;have oZ:=(dm f).2.2.2.2.2.2.2.2.2.2.2.2.2.2;have FV:=(dm g).2.2.2.2.2.2.2.2.2.2.2.2.2.2;have g3:=J f;have g4:=J g;clear u f g oA Dv g1 g2;go_wp2_with fail;refine(HB.out _ dD.out).mono ?_;rintro x w3 ⟨rfl,aT⟩;have kC:=bt dD aT;clear aT;go_wp2;go_ret;exact⟨rfl,kC.out⟩
theorem TY (s:aV):Jb s:=match s with
 | .mk k p s o d l e a b=>apV (fun i c=>TY a[i]) (fun i c=>TY b[i])
 termination_by SizeOf.sizeOf s
 decreasing_by
 ·have h1:=List.sizeOf_lt_of_mem (fD c);simp;omega
 ·have h1:=List.sizeOf_lt_of_mem (fD c);simp;omega
theorem apY {a:List aV}(b:bH bK w S 15 N a)(c:bH bK w S' 15 G a):aC prog 27 #[N,G] w fun e w'=>e=aE (az ap)/\Bl w w':=T1 (fun i _=>TY a[i]) b c
theorem apX (c:ii):EqC c:=by
 intro w S S' R k d e;obtain⟨l,rfl,_,a⟩:=d;obtain⟨m,rfl,_,b⟩:=e;obtain⟨f,g,rfl⟩:=a.val;obtain⟨h,i,rfl⟩:=b.val;have j:ah (Bl w ((w.alloc (M #[A I c.at_,H c.name,az c.ul,A I c.type,O f c.eo.length g] 57)).alloc (M #[A I c.at_,H c.name,az c.ul,A I c.type,O h c.eo.length i] 57))):=((aF _ _).alloc (aD _) _).alloc (by simp) _;clear a b;go_enter func24,ntmps24;go_wp2;go_ret;exact⟨rfl,j.out⟩
theorem apW (q:dV):EqQ q:=by
 intro w S S' R cb k e;obtain⟨l,rl,m,n,o,rfl,_,_,a,b,c,d,g⟩:=k;obtain⟨p,r,rfl⟩:=a.val;obtain⟨s,t,rfl⟩:=b.val;obtain⟨u,v,rfl⟩:=c.val;obtain⟨y,z,rfl⟩:=yk d;obtain⟨B,C,rfl⟩:=g.val;clear a b c d;obtain⟨l,rl,m,n,o,rfl,_,_,a,b,c,d,h⟩:=e;obtain⟨E,F,rfl⟩:=a.val;obtain⟨G,K,rfl⟩:=b.val;obtain⟨L,N,rfl⟩:=c.val;obtain⟨P,Q,rfl⟩:=yk d;obtain⟨T,V,rfl⟩:=h.val;clear a b c d;obtain⟨wz,i⟩:=nm ((w.alloc (M #[A I q.at_,H q.name,O p q.params.length r,H q.result.name,A I q.result.type,O s q.result.eo.length t,O u q.pQ.length v,O y q.for_.length z,O B q.body.length C] 65)).alloc (M #[A I q.at_,H q.name,O E q.params.length F,H q.result.name,A I q.result.type,O G q.result.eo.length K,O L q.pQ.length N,O P q.for_.length Q,O T q.body.length V] 65));have f:=lU i;have j:=apY (g.low iA f) (h.low iA f);have W:=am f;clear f g h;go_enter func26,ntmps26;go_wp2_with fail;rw[<-i];clear i;refine j.mono ?_;rintro x w1 ⟨rfl,e⟩;have X:=bt W e;clear e j;go_wp2;go_ret;exact⟨rfl,X.out⟩
theorem agQ {g:bL}{r:Lv}(b:jj w S g R)(c:jj w S' g r):aC prog 8 #[.agg R.toArray,.agg r.toArray] w fun e w'=>e=aE (az ap)/\Bl w w':=by
 obtain⟨V,W,X,qv,rfl,s,b,hn,k⟩:=b;obtain⟨co,cc,rfl⟩:=yk s;obtain⟨ao,ac,rfl⟩:=b.val;obtain⟨no,nc,rfl⟩:=hn.val;obtain⟨t,u,rfl⟩:=k.val;obtain⟨V,W,X,qv,rfl,v,y,l,m⟩:=c;obtain⟨z,B,rfl⟩:=yk v;obtain⟨C,E,rfl⟩:=y.val;obtain⟨F,G,rfl⟩:=l.val;obtain⟨n,o,rfl⟩:=m.val;obtain⟨wz,a⟩:=nm ((w.alloc (M #[O co g.dl.length cc,O ao g.cZ.length ac,O no g.bz.length nc,O t g.procs.length u] 27)).alloc (M #[O z g.dl.length B,O C g.cZ.length E,O F g.bz.length G,O n g.procs.length o] 27));have d:=lU a;have f:=ab a;have h:wz.heap[w.heap.size+1]? =Z (M #[O z g.dl.length B,O C g.cZ.length E,O F g.bz.length G,O n g.procs.length o] 27):=(by rw[a];exact cu _ _ _ (by simp));have K:=am (aj f h);have L:=anC (fun i _=>apX g.bz[i]) (hn.low gy d) (l.low gy d);have HQ:ah (∀w',Bl w w'->aC prog 25 #[O t g.procs.length u,O n g.procs.length o,.func (.func 26) #[] #[]] w' fun e ek=>e=aE (az ap)/\Bl w' ek):=fun w' c=>anz (fun i _=>apW g.procs[i]) (k.low gh c) (m.low gh c);have dt:=am d;have N:=J f;have P:=J h;have x2:=cl f 2 rfl;have y2:=cl h 2 rfl;clear d s b hn k v y l m f h;go_enter func8,ntmps8;go_upto_region 1 with fail
 rw[<-a];clear a;go_wp2_with fail;refine L.mono ?_;rintro x w1 ⟨rfl,j⟩;have Q:=bt dt j;have p:=(j.block _ N).trans K.1;have q:=(j.block _ P).trans K.2;have x3:=cl p 3 rfl;have y3:=cl q 3 rfl;have g1:=J p;have g2:=J q;clear j L p q x2 y2 N P;go_wp2_with fail;refine(HQ.out _ Q.out).mono ?_;rintro x w2 ⟨rfl,T⟩;have dD:=bt Q T;clear T;go_wp2;go_ret;exact⟨rfl,dD.out⟩
theorem afl (a:Oa)(b:Nat)(w:au):aC prog 239 #[O a 0 b,O U 0 0] w fun x w'=>x=aE (az ap)/\w'=w:=by
 have c:aC prog 64 #[O a 0 b,O U 0 0,.func (.func 251) #[] #[]] w fun x w'=>x=aE (az ap)/\w'=w:=by
  go_enter func64,ntmps64;go_wp2;go_loopw [17] (fun i wr=>i=A I 0/\wr=w) (fun _ _=>0);case atStart=>exact⟨rfl,rfl⟩
  case round=>
   obtain⟨rfl,rfl⟩:=hrel;go_wp2;go_ret;exact⟨rfl,rfl⟩
 go_enter func239,ntmps239;go_wp2_with fail;refine c.mono ?_;rintro x e ⟨rfl,d⟩;subst d;go_wp2;go_ret;exact⟨rfl,rfl⟩
theorem aqo (a:Nat)(b:Oa)(ac:Nat)(w:au):aC prog 240 #[aB (Z (Y a 0 U)),O b 0 ac,O U 0 0] w fun x w'=>x=aE (az ap)/\w'=w:=by
 go_enter func240,ntmps240;go_wp2;go_ret;exact⟨rfl,rfl⟩
theorem aqm (b:Nat)(f:aw)(w:au)(a:w.heap[b]? =Z (M #[O U 0 0,.map U,O U 0 0,.map U] 268)):aC prog 243 #[aB (Z (Y b 0 U)),f] w fun x w'=>x=aE (az ap)/\w'=w:=by
 have c:=J a;have f2:=cl a 0 rfl;clear a;go_enter func243,ntmps243;go_wp2;go_loopw [] (fun wr=>wr=w) (fun _=>0);case atStart=>rfl
 case round=>
  subst hrel;go_wp2;go_ret;exact⟨rfl,rfl⟩
theorem aql (b:Nat)(f:aw)(w:au)(a:w.heap[b]? =Z (M #[O U 0 0,.map U,O U 0 0,.map U] 268)):aC prog 241 #[aB (Z (Y b 2 U)),f] w fun x w'=>x=aE (az ap)/\w'=w:=by
 have c:=J a;have f2:=cl a 2 rfl;clear a;go_enter func241,ntmps241;go_wp2;go_loopw [] (fun wr=>wr=w) (fun _=>0);case atStart=>rfl
 case round=>
  subst hrel;go_wp2;go_ret;exact⟨rfl,rfl⟩
theorem afA (a:Nat)(w:au)(b:w.heap[a]? =Z (M #[O U 0 0,.map U,O U 0 0,.map U] 268)):aC prog 228 #[aB (Z (Y a 0 U))] w fun x w'=>x=aE (az ap)/\w'=w:=by
 have k:∀(e:Fn) (first g:Av) (w:au),(Instr.makeFunc e first g).run prog w=.ok (.func e first g) w:=fun _ _ _ _=>rfl;have h:=fun f=>aql a f w b;have i:=fun f=>aqm a f w b;have l:=J b;clear b;go_enter func228,ntmps228;go_wp2_with fail;refine(h _).mono ?_;rintro x j ⟨rfl,c⟩;have d:=c.symm;subst d;go_wp2_with fail;refine(i _).mono ?_;rintro x j ⟨rfl,c⟩;have d:=c.symm;subst d;go_wp2;go_ret;exact⟨rfl,rfl⟩
theorem afi (c:Oa)(d:Nat)(e:Oa)(ac:Nat)(p:Int)(w:au):aC prog 210 #[.agg #[A I 0,A I p,A I 0,A I 0,H ⟨#[]⟩,O c 0 d,O e 0 ac],.agg #[A I 0,A I 0,A I 0,A I 0,H ⟨#[]⟩,O U 0 0,O U 0 0]] w fun x w'=>x=aE (az ap)/\Bl w w':=by
 obtain⟨b,a⟩:=nm (((w.alloc (M #[A I 0,A I p,A I 0,A I 0,H ⟨#[]⟩,O c 0 d,O e 0 ac] 48)).alloc (M #[A I 0,A I 0,A I 0,A I 0,H ⟨#[]⟩,O U 0 0,O U 0 0] 48)).alloc (M #[O U 0 0,.map U,O U 0 0,.map U] 268));have i:Bl w b:=(by rw[a];exact(((aF _ _).alloc (aD _) _).alloc (by simp) _).alloc (by simp;omega) _);have f:b.heap[w.heap.size]? =Z (M #[A I 0,A I p,A I 0,A I 0,H ⟨#[]⟩,O c 0 d,O e 0 ac] 48):=(by rw[a];exact cR (cR (cu _ _ _ rfl)));have g:b.heap[w.heap.size+1]? =Z (M #[A I 0,A I 0,A I 0,A I 0,H ⟨#[]⟩,O U 0 0,O U 0 0] 48):=(by rw[a];exact cR (cu _ _ _ (by simp)));have h:b.heap[w.heap.size+2]? =Z (M #[O U 0 0,.map U,O U 0 0,.map U] 268):=(by rw[a];exact cu _ _ _ (by simp));have j:aC prog 227 #[aB (Z (Y (w.heap.size+2) 0 U)),aB (Z (Y w.heap.size 0 U)),aB (Z (Y (w.heap.size+1) 0 U))] b fun x w'=>x=aE (az ap)/\Bl b w'/\w'.heap[w.heap.size+2]? =Z (M #[O U 0 0,.map U,O U 0 0,.map U] 268):=by
  have n:=am h;obtain⟨⟨z,B,C,E,F,G,K⟩,_⟩:=fa f;obtain⟨⟨L,N,P,Q,R,S,T⟩,_⟩:=fa g;have V:=J f;have X:=J g;have l2:=J h;have o:=fun W=>afl c d W;have q:=fun W=>aqo (w.heap.size+2) e ac W;clear a i f g h;go_enter func227,ntmps227;go_upto_region 1 with fail
  simp only[List.append]
  go_quiet ((first |(go_at_call 239;exact Calls.quiet_of_same (o _))|(go_at_call 240;exact Calls.quiet_of_same (q _))))
  go_wp2;go_ret;exact⟨rfl,⟨rfl,rfl,rfl,aD _,fun _ _=>rfl⟩,n.out⟩
 have k:=fun W=>afA (w.heap.size+2) W;have r:=am i;clear i f g h;go_enter func210,ntmps210;go_wp2_with fail;rw[<-a];clear a;refine j.mono ?_;rintro x s ⟨rfl,l,m⟩;have t:=bt r l;have u:=k s m;clear l m k j;go_wp2_with fail;refine u.mono ?_;rintro x w2 ⟨rfl,v⟩;have y:=v.symm;subst y;go_wp2;go_ret;exact⟨rfl,t.out⟩
theorem SO (k:Int)(a:k=1\/k=2)(w:au):aC prog 41 #[A I k] w fun x w'=>x=aE (az ap)/\w'=w:=by
 rcases a with rfl | rfl;all_goals
  go_enter func41,ntmps41;go_wp2;go_ret;exact⟨rfl,rfl⟩
theorem G7 (s:Bt)(w:au)(a:s.size<=maxLen)(h:ag.dG s=ap):aC prog 42 #[H s] w fun x w'=>x=aE (az ap)/\w'=w:=by
 have hn:=M3 s w (by unfold maxLen at a;omega);rw[show Lex.kR s.data.toList=ag.dG s from rfl,h] at hn;exact hn
theorem JZ (h:dw w S v l)(a:ag.gp l=ap):aC prog 43 #[v] w fun x w'=>x=aE (az ap)/\Bl w w':=by
 have:=Y3 h;rw[a] at this;exact this
theorem aib {d:Bool}{e:Tr}{a c:List aV}(g:ag.mj (m+1) (.mk k p s o d l e a c))(t:s.size<=maxLen)(B:o.size<=maxLen)(c0:w.cell? (Y b off U)=Z (A I k))(n:w.cell? (Y b (off+2) U)=Z (H s))(f:w.cell? (Y b (off+3) U)=Z (H o))(u:b<w.heap.size):
 aC prog 185 #[aB (Z (Y b off U))] w fun x w'=>x=aE (az ap)/\w'=w:=by
 have F:=u;clear u;rcases QD g with⟨rfl,h,v,_⟩|⟨q,h,rfl,_⟩|⟨q,rfl,rfl,_⟩|⟨rfl,rfl,rfl,_⟩
 ·have r:=G7 s w t h;have C:=G7 o w B v;clear g h v;go_enter func185,ntmps185;go_wp2_with fail;refine r.mono ?_;rintro x y ⟨rfl,i⟩;have j:=i.symm;subst j;go_wp2_with fail;refine C.mono ?_;rintro x y ⟨rfl,i⟩;have j:=i.symm;subst j;go_wp2;go_ret;exact⟨rfl,rfl⟩
 ·have r:=G7 s w t h;have z:w.cell? (Y b (off+3) U)=Z (H ⟨#[]⟩):=f;clear g h f;rcases q with rfl | rfl | rfl;all_goals
   go_enter func185,ntmps185;go_wp2_with fail;refine r.mono ?_;rintro x y ⟨rfl,i⟩;have j:=i.symm;subst j;go_wp2;go_ret;exact⟨rfl,rfl⟩
 ·have E:w.cell? (Y b (off+2) U)=Z (H ⟨#[]⟩):=n;have z:w.cell? (Y b (off+3) U)=Z (H ⟨#[]⟩):=f;clear g n f;rcases q with rfl | rfl | rfl;all_goals
   go_enter func185,ntmps185;go_wp2;go_ret;exact⟨rfl,rfl⟩
 ·have E:w.cell? (Y b (off+2) U)=Z (H ⟨#[]⟩):=n;have z:w.cell? (Y b (off+3) U)=Z (H ⟨#[]⟩):=f;clear g n f;go_enter func185,ntmps185;go_wp2;go_ret;exact⟨rfl,rfl⟩
end Go.Proofs.YtoiiahpdbcokaaaGreatDoor
