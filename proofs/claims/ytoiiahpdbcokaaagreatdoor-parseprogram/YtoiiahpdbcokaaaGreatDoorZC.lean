/- The document's own reader: label, where it goes on. And more of the same. -/
import Derived.Test.YtoiiahpdbcokaaaGreatDoorZB
import Derived.Deep.CutBlock
import Derived.Deep.CutRange
import Derived.Deep.DeepCutAuto
import Derived.Deep.RegionLaw
import Derived.Deep.AppendLies
import Derived.Deep.RegionWith
namespace Go.Proofs.YtoiiahpdbcokaaaGreatDoor
open Go.Value renaming int -> A, slice -> O, string -> H, pointer -> aB
open Go.IntKind renaming i64 -> I
open _root_.Option renaming none -> U, some -> Z
open Go.Addr renaming mk -> Y
open Go.Obj renaming cells -> M
open Go renaming lt_of_block -> J, World -> au, Value -> aw, Calls -> aC
open _root_.Nat renaming le_refl -> aD
open Go.Ending renaming returned -> aE
open Go.RowKit.Below renaming refl -> aF, heap_setCell -> dL
open _root_.Array renaming getElem?_modify -> dM
open Go.World renaming cell? -> aN, setCell -> bw
open _root_.Bool renaming false -> ak, true -> ap
open Go.RowKit renaming Below -> aq, Hid -> ah
open _root_.List renaming mem_cons -> fN, not_mem_nil -> kD
open _root_.Go.Proofs.Tryz
set_option maxRecDepth 100000
set_option maxHeartbeats 8000000
open Go.RowKit
open ag (Tok Tr Po aA nx bI aO gg ba)
variable {B K X bx d d5 d6 e k k0 lv C m6 n n5 n6 q rb sz V:Nat} {acc l:List Po} {a:Po} {r r4 ts:List Tok} {o s L:Bt} {W w w' ek w4 wO wt wz:au} {x:Ending} {y:Tr} {a0 a1 a2 a3 a4 a5 a6 u v v4 y0 y1 y2 y3 y4 y5 y6:aw} {al Ay bl Aw c p p0 z z0 z1 z2 G:Int} {R:aA Tr} {t:Tok} {S S':Np} {cs cx cy:Lv} {E P Q:List Tok->aA Tr} {N z6:Oa} {tm:Av}
def JU (e:Nat)(l:List Po)(r:List Tok):aA (List Po):=(ag.aR e [125] r).bind fun _ r3=>.ok l r3
def og (e:Nat)(acc:List Po)(a:Po)(r:List Tok):aA (List Po):=(ag.dU e [59] (ag.mQ e) (199 - acc.length) (acc++[a]) r).bind (JU e)
def yy (e:Nat)(acc:List Po)(o:Bt)(r:List Tok):aA (List Po):=if(nx r).1=1 then(ag.dT e [44] 6 (ag.bR e) r).bind fun l r3=>og e acc (o,l) r3 else og e acc (o,[]) r
theorem agT (e:Nat)(acc:List Po)(r:List Tok):(ag.mQ e r).bind (og e acc)=(ag.bR e r).bind fun o r=>(ag.aR e [58] r).bind fun _ a=>yy e acc o a:=by
 unfold ag.mQ;rw[iU]
 congr 1
 funext o r1
 rw[iU]
 congr 1
 funext _ a
 unfold yy;by_cases h:(nx a).1=1
 ·rw[if_pos h,if_pos h,iU];rfl
 ·rw[if_neg h,if_neg h];rfl
theorem ajH (e:Nat)(r:List Tok):(ag.dT e [59] 200 (ag.mQ e) r).bind (JU e)=(ag.mQ e r).bind (og e []):=by
 unfold ag.dT;rw[iU];rfl
theorem ajI (h:aO [59] (ts.drop k)=ap)(hn:acc.length<199):og e acc a (ts.drop k)=(ag.mQ e (ts.drop (k+1))).bind (og e (acc++[a])):=by
 unfold og;rw[show 199 - acc.length=(199 - (acc++[a]).length)+1 by simp;omega,Ns h,iU]
theorem ajJ (h:aO [59] r=ap)(hn:acc.length=199):og e acc a r=.no 2 (bI e r):=by
 unfold og;rw[hn,Nt h];rfl
theorem ajK (h:aO [59] r=ak):og e acc a r=(ag.aR e [125] r).bind fun _ b=>.ok (acc++[a]) b:=by
 unfold og;rw[Nu h];rfl
def oH (e:Nat)(acc:List Po)(o:Bt)(l:List Bt)(r:List Tok):aA (List Po):=(ag.dU e [44] (ag.bR e) (6 - l.length) l r).bind fun l r3=>og e acc (o,l) r3
theorem afO (h:(nx r).1=1):yy e acc o r=(ag.bR e r).bind fun a r=>oH e acc o [a] r:=by
 unfold yy;rw[if_pos h];unfold ag.dT;rw[iU];rfl
theorem afS {l:List Bt}(h:aO [44] r=ak):oH e acc o l r=og e acc (o,l) r:=by
 unfold oH;rw[Nu h];rfl
theorem afQ {l:List Bt}(h:aO [44] r=ap)(hn:l.length=6):oH e acc o l r=.no 2 (bI e r):=by
 unfold oH;rw[hn,Nt h];rfl
theorem afP {l:List Bt}(h:aO [44] (ts.drop k)=ap)(hn:l.length<6):oH e acc o l (ts.drop k)=(ag.bR e (ts.drop (k+1))).bind fun a r=>oH e acc o (l++[a]) r:=by
 unfold oH;rw[show 6 - l.length=(6 - (l.length+1))+1 by omega,Ns h,iU]
 congr 1
 funext a r
 rw[List.length_append];rfl
def GJ (w:au)(X:Nat):Nat:=6 - lenOf ((w.cell? (Y X 1 U)).getD undef)
theorem XF {x y:aw}(h:w.heap[X]? =Z (M #[x,y] 119)):(w.setCell (Y X 1 U) u).heap[X]? =Z (M #[x,u] 119):=by
 simp only[bw,dM,h];simp
def Ut (w wr:au)(tb e:Nat)(ts:List Tok)(v:aw)(bl al:Int)(R:aA (List Po))(lv:aw)(n:Nat):Prop:=
 ∃acc kk pp,n=acc.length/\w.grownBy wr (Z tb)/\bO pk wr w.heap.size 119 2 lv acc/\Tx wr tb e ts v kk 0 pp bl al/\R=(ag.mQ e (ts.drop kk)).bind (og e acc)
def F0 (wr wc:au)(tb e:Nat)(ts:List Tok)(v:aw)(bl al:Int)(R:aA (List Po))(K:List Bt->List Tok->aA (List Po))(X:Nat)(o:Bt):Prop:=
 ∃ao cc dv k c p,wr.grownBy wc (Z tb)/\wc.heap[X]? =Z (M #[H o,O ao dv.length cc] 119)/\bO jm wc (X+1) 9 1 (O ao dv.length cc) dv/\dv.length<=6/\St wc tb e ts v bl al R (K dv) k c p
theorem afR {f h b:au}{R:aA (List Po)}{K:List Bt->List Tok->aA (List Po)}{c d i:Nat}{c0 j k:Int}{g:Bt}{a:List Bt}{s:aw}(t:Tx w V e ts v k0 c0 p0 Aw Ay)(l:w.grownBy f (Z V))(m:f.grownBy h (Z V))(x:f.heap.size<=X)(y:aq (X+1) h b)(z:b.heap[X]? =Z (M #[H o,s] 119))(B:bO jm b (X+1) 9 1 (O (Z (Y c 0 U)) (a.length+1) d) (a++[g]))(F:a.length<6)(n:St h V e ts v bl al R (K (a++[g])) i j k):
 F0 f (b.setCell (Y X 1 U) (O (Z (Y c 0 U)) (a.length+1) d)) V e ts v bl al R K X o/\GJ (b.setCell (Y X 1 U) (O (Z (Y c 0 U)) (a.length+1) d)) X=6 - (a.length+1):=by
 have p:(a++[g]).length=a.length+1:=(by simp);have q:=XF (u:=O (Z (Y c 0 U)) (a.length+1) d) z;have C:aq X b (b.setCell (Y X 1 U) (O (Z (Y c 0 U)) (a.length+1) d)):=(aF X b).setCell (aD _) _;have r:=(y.mono (by omega)).trans C;have G:=l.size;refine⟨⟨Z (Y c 0 U),d,a++[g],i,j,k,mh m (r.mono x),?_,?_,by omega,t.past (l.trans m) n.1 (r.mono (by omega)),n.2⟩,?_⟩
 ·rw[p];exact q
 ·rw[p];exact B.grown fe (eR (jh _ _) rfl _) (Nat.lt_succ_self _)
 ·unfold GJ;have E:=cl q 1 rfl;rw[E];rfl
theorem ako (gM:ag.Good ts)(gK:qx ts)(h:Tx w V e ts v k 0 p bl al):
 aC prog 54 #[aB (Z (Y V 0 U))] w (zR w V e ts v bl al (ag.fX e (ts.drop k)) (fun w' l u=>bO pk w' w.heap.size 119 2 u l) JL):=by
 obtain⟨R,hR⟩:∃R,R=ag.fX e (ts.drop k):=⟨_,rfl⟩;have di:St w V e ts v bl al R (fun r=>(ag.aR e [123] r).bind fun _ z=>(if aO [125] z=ap then aA.ok [] z else ag.dT e [59] 200 (ag.mQ e) z).bind (JU e)) k 0 p:=⟨h,.inl ⟨rfl,hR⟩⟩;have hn:=oK gM (ji (by decide)) (by decide) di;have ad:ah (Tx w V e ts v k 0 p bl al):=h;have dK:ah (ag.Good ts):=gM;have jH:ah (qx ts):=gK;have Fl:=h.lt;rw[<-hR];clear h gM gK hR di;go_enter func54,ntmps54;go_wp2_with fail;refine hn.mono ?_;rintro x w1 ⟨rfl,aZ,k1,c1,p1,eY⟩;have fL:ah (w.grownBy w1 (Z V)):=aZ;have kd:ah (St w1 V e ts v bl al R (fun z=>(if aO [125] z=ap then aA.ok [] z else ag.dT e [59] 200 (ag.mQ e) z).bind (JU e)) k1 c1 p1):=eY;have hs:=vl [125] eY.1;rw[np dK.out (ji (by decide)) (by decide)] at hs;obtain⟨z,fi⟩:∃z,aO [125] (ts.drop k1)=z:=⟨_,rfl⟩;have eF:ah (aO [125] (ts.drop k1)=z):=fi;rw[fi] at hs;clear hn aZ eY fi;go_wp2_with fail;refine hs.mono ?_;rintro x w2 ⟨rfl,cW⟩;have dX:ah (w.grownBy w2 (Z V)):=fL.trans cW.1;cases z with
 | true=>
  have HF:ah (R=.ok [] (ts.drop (k1+1))/\Tx w2 V e ts v (k1+1) 0 p1 bl al):=by
   have hk:=cW.2.1 rfl;rcases kd.2 with⟨rfl,s⟩|⟨_,s,_⟩
   ·refine⟨?_,cW.2.2⟩;rw[s];simp only;rw[eF.out];simp only[if_true,aA.bind,JU];rw[Bb eF.out];rfl
   ·omega
  clear cW hs;go_wp2;go_ret;exact⟨dX.out,.inl ⟨[],k1+1,p1,_,HF.1,rfl,bO.nil _ _ _ _ _,HF.2⟩⟩
 | false=>
  have H2:ah (Tx w2 V e ts v k1 c1 p1 bl al):=cW.2.2;obtain⟨q0,q1,q2,q3,q4,q5,q6⟩:=H2.cells;have aK:=H2.lt;clear cW hs;rcases kd.2 with⟨hc,s⟩|⟨hc,s,q,h3,h4⟩
  ·subst hc;have ey:ah (Ut w w2 V e ts v bl al R (O U 0 0) 0):=by
    refine⟨[],k1,p1,rfl,dX.out,bO.nil _ _ _ _ _,H2.out,?_⟩;rw[s];simp only;rw[eF.out];exact ajH e _
   clear s;go_wp2;go_loopw [3] (fun lv wr=>∃ao n cc,lv=O ao n cc/\n<=199/\ah (Ut w wr V e ts v bl al R lv n)) (fun lv _=>200 - lenOf lv);case atStart=>exact⟨_,_,_,rfl,Nat.zero_le _,ey.out⟩
   case round=>
    clear q0 q1 q2 q3 q4 q5 q6 aK;obtain⟨m,rfl⟩:∃m,m=wr:=⟨_,rfl⟩;obtain⟨ao,n,cc,rfl,iO,HD⟩:=hrel;obtain⟨acc,kk,pp,hn,ci,af,il,SW⟩:=HD.out;subst hn;rw[agT] at SW;have ew:=qT (K:=fun o r=>(ag.aR e [58] r).bind fun _ z=>yy e acc o z) jH (⟨il,.inl ⟨rfl,SW⟩⟩:St m V e ts v bl al R (fun r=>(ag.bR e r).bind fun o r=>(ag.aR e [58] r).bind fun _ z=>yy e acc o z) kk 0 pp);have Mp:ah (w.grownBy m (Z V)):=ci;have HOr:ah (bO pk m w.heap.size 119 2 (O ao acc.length cc) acc):=af;have Oi:=il.lt;clear HD ci af il SW;go_wp2_with fail;refine ew.mono ?_;rintro x c ⟨o,rfl,vC,bY,k3,c3,p3,kq⟩;have aW:ah (o.size<=maxLen):=vC;obtain⟨w4,jV⟩:∃w4,w4=c.alloc (M #[H o,O U 0 0] 119):=⟨_,rfl⟩;have iD:Bl c w4:=(by rw[jV];exact(aF _ _).alloc (aD _) _);have PI:ah (w4.heap[c.heap.size]? =Z (M #[H o,O U 0 0] 119)):=(by rw[jV];exact cu _ _ _ rfl);have lH:ah (m.grownBy w4 (Z V)):=mh bY (iD.mono bY.size);have eI:=oK (K:=yy e acc o) dK (ji (by decide)) (by decide) (kq.later iD);have aX:ah (w4=c.alloc (M #[H o,O U 0 0] 119)):=jV;have N5:=bY.size;have ZR:=J PI;clear ew bY kq jV iD vC;go_wp2_with fail;rw[<-aX.out];refine eI.mono ?_;rintro x w5 ⟨rfl,gN,k5,c5,p5,rL⟩;have gQ:ah (m.grownBy w5 (Z V)):=lH.trans gN;have ai:ah (w5.heap[c.heap.size]? =Z (M #[H o,O U 0 0] 119)):=(gN.block _ ZR (by simp;omega)).trans PI;have jx:=peekD rL.1;have qF:ah (St w5 V e ts v bl al R (yy e acc o) k5 c5 p5):=rL;obtain⟨t,ht⟩:∃t,t=nx (ts.drop k5):=⟨_,rfl⟩;have HT:ah (nx (ts.drop k5)=t):=ht.symm;rw[<-ht] at jx;obtain⟨t0,t1,t2⟩:=t;unfold AY at jx;simp only at jx;obtain⟨s2,ec⟩:∃s2,s2=ba t2:=⟨_,rfl⟩;rw[<-ec] at jx;have ZQ:=J ai;clear eI rL gN ht ec;go_wp2_with fail;refine jx.mono ?_;rintro x w6 ⟨rfl,ra⟩;have ru:ah (m.grownBy w6 (Z V)):=mh gQ (ra.mono gQ.size);have UD:ah (w6.heap[c.heap.size]? =Z (M #[H o,O U 0 0] 119)):=(ra.block _ ZQ).trans ai
    have tZ:ah (St w6 V e ts v bl al R (yy e acc o) k5 c5 p5):=qF.later ra;have R6:=J UD;clear jx ra ZQ ZR;have a0:=Tp (A I t0) (A I (t1:Int)) (H s2) w6
    go_upto_if 25 with fail
    go_cut [] (fun wc=>ah (F0 m wc V e ts v bl al R (fun l r=>og e acc (o,l) r) c.heap.size o))
    case first=>
     by_cases uq:t0=1
     ·subst uq;have sV:k5<ts.length:=by
       apply Classical.byContradiction;intro bh;have E:=HT.out;rw[A9 (by omega)] at E;simp at E
      have vD:c5=0/\R=yy e acc o (ts.drop k5):=by
       rcases tZ.2 with d |⟨_,d,_⟩
       ·exact d
       ·omega
      obtain⟨a1,Tc⟩:=vD;subst a1;rw[afO (by rw[HT.out])] at Tc;have ew:=qT (K:=fun a r=>oH e acc o [a] r) jH (⟨tZ.1,.inl ⟨rfl,Tc⟩⟩:St w6 V e ts v bl al R (fun r=>(ag.bR e r).bind fun a r=>oH e acc o [a] r) k5 0 p5);clear Tc sV;go_wp2_with fail;refine ew.mono ?_;rintro x F ⟨Q,rfl,Kq,gG,C,c7,p7,kG⟩;have K6:F.heap[c.heap.size]? =Z (M #[H o,O U 0 0] 119):=(gG.block _ R6 (by simp;omega)).trans UD;have x1:F.cell? (Y c.heap.size 1 U)=Z (O U 0 0):=(by simp[aN,K6]);have y1:F.frozen? (Y c.heap.size 1 U)=ak:=(by simp[World.frozen?,K6]);have R5:=J K6;have a2:ah (F0 m ((F.setCell (Y c.heap.size 1 U) (O (Z (Y F.heap.size 0 U)) 1 1)).alloc (M #[H Q] 9)) V e ts v bl al R (oH e acc o) c.heap.size o):=(by have ar:m.grownBy F (Z V):=ru.trans gG;have Ov:=Mp.size;have e7:(F.setCell (Y c.heap.size 1 U) (O (Z (Y F.heap.size 0 U)) 1 1)).heap.size=F.heap.size:=(by simp[bw]);have me:aq m.heap.size F ((F.setCell (Y c.heap.size 1 U) (O (Z (Y F.heap.size 0 U)) 1 1)).alloc (M #[H Q] 9)):=((aF _ F).setCell (by simp;omega) _).alloc (by rw[e7];omega) _;have av:=bO.one (El:=jm) (w:=F.setCell (Y c.heap.size 1 U) (O (Z (Y F.heap.size 0 U)) 1 1)) (B:=c.heap.size+1) (e:=9) (a:=Q) (xs:=#[H Q]) fe ⟨rfl,Kq⟩ (by rw[e7];omega);rw[e7] at av;exact⟨_,_,[Q],C,c7,p7,mh ar me,cR (XF K6),av,by simp,ad.past (Mp.trans ar) kG.1 (me.mono Ov),kG.2⟩);clear ew gG kG K6 Kq tZ;go_wp2;go_loopw [30] (fun _ wi=>ah (F0 m wi V e ts v bl al R (oH e acc o) c.heap.size o)) (fun _ wi=>GJ wi c.heap.size);case atStart=>exact a2
      case round=>
       clear x1 y1 R5 R6;obtain⟨f,g,b,L,c9,p9,pG,E2,ax,ay,iR⟩:=hrel.out;have oF:ah (m.grownBy wr (Z V)):=pG;have a3:ah (wr.heap[c.heap.size]? =Z (M #[H o,O f b.length g] 119)):=E2;have DK:ah (bO jm wr (c.heap.size+1) 9 1 (O f b.length g) b):=ax;have N:ah (St wr V e ts v bl al R (oH e acc o b) L c9 p9):=iR;have ZP:=J E2;have X:=rC [44] iR.1;rw[np dK.out (ji (by decide)) (by decide)] at X;obtain⟨r9,Ff⟩:∃r9,aO [44] (ts.drop L)=r9:=⟨_,rfl⟩;have B5:ah (aO [44] (ts.drop L)=r9):=Ff;rw[Ff] at X;have HM:ah (GJ wr c.heap.size=6 - b.length):=by
        show _=_;unfold GJ;have x1:wr.cell? (Y c.heap.size 1 U)=Z (O f b.length g):=(by simp[aN,E2]);rw[x1];rfl
       clear hrel pG E2 ax iR Ff;go_wp2_with fail;refine X.mono ?_;rintro x wj ⟨rfl,KR⟩;have VR:ah (m.grownBy wj (Z V)):=mh oF (KR.mono oF.size);have LW:ah (wj.heap[c.heap.size]? =Z (M #[H o,O f b.length g] 119)):=(KR.block _ ZP).trans a3;have Vd:ah (bO jm wj (c.heap.size+1) 9 1 (O f b.length g) b):=DK.below fe KR;have W:ah (St wj V e ts v bl al R (oH e acc o b) L c9 p9):=N.later KR;have ZO:=J LW;clear X KR N ZP;cases r9 with
       | false=>
        have HF:ah (F0 m wj V e ts v bl al R (fun l r=>og e acc (o,l) r) c.heap.size o):=by
         refine⟨_,_,b,L,c9,p9,VR.out,LW.out,Vd.out,ay,W.1,?_⟩;rcases W.2 with⟨d,s⟩| d
         ·exact .inl ⟨d,by rw[s];exact afS B5⟩
         ·exact .inr d
        go_wp2;go_meet;case rel=>exact HF
       | true=>
        have C6:L<ts.length:=J2 (by decide) B5;have a4:ah (L<ts.length):=C6;have vD:c9=0/\R=oH e acc o b (ts.drop L):=by
         rcases W.2 with d |⟨_,d,_⟩
         ·exact d
         ·omega
        obtain⟨a5,aG⟩:=vD;subst a5;have jk:ah (R=oH e acc o b (ts.drop L)):=aG;have x1:wj.cell? (Y c.heap.size 1 U)=Z (O f b.length g):=(by have E:=LW.out;simp[aN,E]);clear aG C6;by_cases hf:b.length=6
        ·have eG:=wT 2 W.1;have HF:ah (b.length=6):=hf;have h6:6<=b.length:=(by omega);have hd:decide ((6:Int)<=(b.length:Int))=ap:=(by simp;omega);clear hf;go_wp2_with fail;refine eG.mono ?_;rintro x wz ⟨rfl,bB⟩;have a6:ah (F0 m wz V e ts v bl al R (fun l r=>og e acc (o,l) r) c.heap.size o):=(by obtain⟨h8,E⟩:=bB;rw[if_pos rfl,if_pos rfl] at E;refine⟨_,_,b,_,_,_,VR.trans h8,(h8.block _ ZO (by simp;omega)).trans LW,Vd.grown fe h8 (by omega),ay,E,.inr ⟨by decide,rfl,_,rfl,?_⟩⟩;rw[jk.out];exact afQ B5 HF);clear bB eG;go_wp2;go_meet;case rel=>exact a6
        ·have hd:decide ((6:Int)<=(b.length:Int))=ak:=(by simp;omega);have jO:b.length<6:=(by omega);obtain⟨q0,q1,_⟩:=W.1.cells;have z1:=W.1.free 1;have aK:=W.1.lt;have mU:L<=100000:=Nat.le_trans W.1.le W.1.jZ;obtain⟨pF,mz⟩:=W.1.next a4;obtain⟨T,cJ⟩:∃T,T=wj.setCell (Y V 1 U) (A I ((L:Int)+1)):=⟨_,rfl⟩;rw[<-cJ] at pF mz;have Mq:ah (m.grownBy T (Z V)):=VR.trans pF;have UC:ah (T.heap[c.heap.size]? =Z (M #[H o,O f b.length g] 119)):=(pF.block _ ZO (by simp;omega)).trans LW;have a7:ah (bO jm T (c.heap.size+1) 9 1 (O f b.length g) b):=Vd.grown fe pF (by omega);have DH:ah (St T V e ts v bl al R (fun r=>(ag.bR e r).bind fun a r=>oH e acc o (b++[a]) r) (L+1) 0 p9):=⟨mz,.inl ⟨rfl,by rw[jk.out];exact afP B5 jO⟩⟩;have sq:ah (∀w',Bl T w'->aC prog 51 #[aB (Z (Y V 0 U))] w' fun x ek=>∃Q:Bt,x=aE (H Q)/\Q.size<=maxLen/\AB T V e ts v bl al R (oH e acc o (b++[Q])) ek):=(by show ∀w',_;intro w' hb;refine(qT jH (DH.later hb)).mono ?_;rintro x ek ⟨Q,d,s,h3,h4⟩;exact⟨Q,d,s,World.grownBy.trans ⟨hb.os,hb.tape,hb.output,hb.size,fun j hj _=>hb.block j hj⟩ h3,h4⟩);have xn:T.cell? (Y c.heap.size 1 U)=Z (O f b.length g):=(by have E:=UC.out;simp[aN,E]);have a8:ah (T=wj.setCell (Y V 1 U) (A I ((L:Int)+1))):=cJ;have a9:=J UC;clear hf pF mz cJ;go_upto_region 13 with fail
         rw[<-a8.out];clear q0 q1 z1 aK x1 hd;obtain⟨i0,gT,cL,bZ,bA⟩:=info_parts Tryz.Hh;have bo:V≠c.heap.size:=by omega
         go_region_law (first
          |(go_simp
            go_at_call 51
            refine(sq.out _ (by first | exact aF _ _ | exact FT _ | exact zn _ _)).mono ?_;rintro x y ⟨n2,rfl,Bu,kK,km,cm,pm,qh⟩;have K5:y.heap[c.heap.size]? =Z (M #[H o,O f b.length g] 119):=(kK.block _ a9 (by simp;omega)).trans UC;have xm:y.cell? (Y c.heap.size 1 U)=Z (O f b.length g):=(by simp[aN,K5]);have ym:y.frozen? (Y c.heap.size 1 U)=ak:=(by simp[World.frozen?,K5]);have bb:ah (y.heap[c.heap.size]? =Z (M #[H o,O f b.length g] 119)):=K5;have Ce:ah (T.grownBy y (Z V)):=kK;have vV:ah (St y V e ts v bl al R (oH e acc o (b++[n2])) km cm pm):=qh;have vZ:ah (bO jm y (c.heap.size+1) 9 1 (O f b.length g) b):=a7.grown fe kK (by omega);obtain⟨P,AL,bc,be⟩:∃P:List (Lv),ah (y.ownsRow (c.heap.size+1) 9 1 (O f b.length g) b.length P.flatten)/\ah (P.length=b.length)/\ah (∀i (h:i<b.length) (h':i<P.length),jm y (SB (c.heap.size+1) (O f b.length g)) b[i] P[i]):=vZ.ex;have bp:=J K5;clear K5 kK qh
            dsimp only)
          |(refine step_append_lies _ rfl _ _ 22 rfl (c.heap.size+1) 9 i0 (H ⟨#[]⟩) 1 16 underlying22 gT cL bZ bA rfl (by decide) _ _ _ rfl (World.ownsRow.alloc AL _) (Y y.heap.size 0 U) 1 1 [H n2] rfl rfl (JG _ _) (by intro u hu;simp only[List.mem_singleton] at hu;subst hu;rfl) (by decide) (by unfold maxLen;omega) (by omega) (by simp;omega) _ rfl ?_
            intro g8 gO G li jf nW Oj;have kX:Bl y (y.alloc (M #[H n2] 9)):=(aF _ _).alloc (aD _) _;have S3:∀k,(Value.slice f b.length g).ownBlock=Z k->c.heap.size+1<=k/\k<y.heap.size:=AL.lt;have mF:aq (c.heap.size+1) y G:=(kX.mono (by omega)).grown jf (by have:=kX.size;omega) (fun k hk=>(S3 k hk).1);have AM:ah (bO jm G (c.heap.size+1) 9 1 (O (Z (Y g8 0 U)) (b.length+1) gO) (b++[n2])):=bO.add fe (w:=y) (w1:=y.alloc (M #[H n2] 9)) (css:=P) (fun k hk=>(S3 k hk).2) bc (fun i hi cY=>fe.keeps (be.out i hi cY) (aP.bm kX)) ⟨rfl,Bu⟩ (by omega) li jf (nW.imp (fun h=>h.symm) (fun h=>congrArg Z h));have xY:ah (aq (c.heap.size+1) y G):=mF;have nB:G.heap[c.heap.size]? =Z (M #[H o,O f b.length g] 119):=(mF.block _ (by omega)).trans bb;have x8:G.cell? (Y c.heap.size 1 U)=Z (O f b.length g):=(by simp[aN,nB]);have y8:G.frozen? (Y c.heap.size 1 U)=ak:=(by simp[World.frozen?,nB]);have bf:ah (G.heap[c.heap.size]? =Z (M #[H o,O f b.length g] 119)):=nB
            clear kX S3 mF li jf nW nB))
         all_goals have DO:=afR (K:=oH e acc o) ad Mp (Mq.trans Ce) N5 xY bf AM jO vV
         all_goals have aH:ah (F0 m (G.setCell (Y c.heap.size 1 U) (O (Z (Y g8 0 U)) (b.length+1) gO)) V e ts v bl al R (oH e acc o) c.heap.size o/\GJ (G.setCell (Y c.heap.size 1 U) (O (Z (Y g8 0 U)) (b.length+1) gO)) c.heap.size=6 - (b.length+1)):=DO
         all_goals clear DO x8 y8 xm ym
         all_goals go_wp2
         all_goals exact⟨aH.1,by rw[aH.2,HM.out];omega⟩
     ·have R2:(t0==1)=ak:=(by simpa using uq);have bg:ah (¬t0=1):=uq;clear uq;go_wp2;go_meet;case rel=>
       refine⟨U,0,[],k5,c5,p5,ru.out,UD.out,bO.nil _ _ _ _ _,Nat.zero_le _,tZ.1,?_⟩;rcases tZ.2 with⟨d,s⟩| d
       ·refine .inl ⟨d,?_⟩;rw[s];unfold yy;rw[HT.out,if_neg bg.out]
       ·exact .inr d
    case rest=>
     obtain⟨f,g,b,C,c7,p7,gG,E3,aI,vF,kG⟩:=hcut.out;have aJ:ah (w.grownBy wc (Z V)):=Mp.trans gG;have AH:ah (St wc V e ts v bl al R (fun r=>og e acc (o,b) r) C c7 p7):=kG;have x0:wc.cell? (Y c.heap.size 0 U)=Z (H o):=(by simp[aN,E3]);have x1:wc.cell? (Y c.heap.size 1 U)=Z (O f b.length g):=(by simp[aN,E3]);have bq:=J E3;have aM:ah (pk wc (fun ae=>m.heap.size<=ae) (o,b) [H o,O f b.length g]):=(by refine qU.mono (S:=fun ae=>c.heap.size+1<=ae) ?_ (fun ae hb _=>by omega);exact⟨_,rfl,aW.out,aI.strs⟩);obtain⟨br,o1,o2,o3⟩:=HOr.ex;obtain⟨P,Xz,Xy,Xx⟩:=(HOr.grown qU gG ad.lt).ex;have HP:ah (wc.ownsRow w.heap.size 119 2 (O ao acc.length cc) acc.length P.flatten):=Xz;have L9:ah (P.length=acc.length):=Xy;have F9:ah (∀i (h:i<acc.length) (h':i<P.length),pk wc (SB w.heap.size (O ao acc.length cc)) acc[i] P[i]):=Xx;have bi:w.heap.size<=m.heap.size:=Mp.size;have R5:m.heap.size<=wc.heap.size:=gG.size;have HL:ah (∀k,(Value.slice ao acc.length cc).ownBlock=Z k->w.heap.size<=k/\k<m.heap.size):=o1.lt;obtain⟨i0,gT,cL,bZ,bA⟩:=info_parts Tryz.Zm;clear hcut gG E3 aI vF kG o1 o2 o3 Xz Xy Xx tZ R6 a0 HT;go_wp2_with (at_builtin;refine wpList_append_own_at _ rfl _ _ 45 rfl w.heap.size 119 i0 (.agg #[H ⟨#[]⟩,O U 0 0]) 2 40 underlying45 gT cL bZ bA rfl (by decide) _ _ _ rfl (World.ownsRow.alloc HP.out _) (Y wc.heap.size 0 U) 1 1 [H o,O f b.length g] rfl rfl ?c1 ?c2 ?c3 ?c4 ?c5 ?_);case c1=>exact Yg _ _
     case c2=>exact qU.one aM
     case c3=>unfold maxLen;omega
     case c4=>omega
     case c5=>simp;omega
     ·intro u' G li jf _ nW;have gv:Bl wc (wc.alloc (M #[H o,O f b.length g] 119)):=(aF _ _).alloc (aD _) _;have xY:aq w.heap.size wc G:=(gv.mono (by omega)).grown jf (by have:=gv.size;omega) (fun k hk=>(HL.out k hk).1);have AM:ah (bO pk G w.heap.size 119 2 u' (acc++[(o,b)])):=by
       refine bO.add qU (w:=m) (w1:=wc.alloc (M #[H o,O f b.length g] 119)) (css:=P) ?_ L9 (fun i hi cY=>qU.keeps (F9.out i hi cY) (aP.bm gv)) (qU.keeps aM (aP.bm gv)) bi li jf (by simpa using nW);exact fun k hk=>(HL.out k hk).2
      have uS:ah (w.grownBy G (Z V)):=mh aJ xY;have oa:ah (St G V e ts v bl al R (fun r=>og e acc (o,b) r) C c7 p7):=⟨ad.past aJ AH.1 xY,AH.2⟩;obtain⟨rh,c8,Hk⟩:=AM.slice;rw[List.length_append,List.length_singleton] at Hk;subst Hk;have X:=rC [59] oa.1;rw[np dK.out (ji (by decide)) (by decide)] at X;obtain⟨r9,Ff⟩:∃r9,aO [59] (ts.drop C)=r9:=⟨_,rfl⟩;have B5:ah (aO [59] (ts.drop C)=r9):=Ff;rw[Ff] at X;clear li jf nW gv xY Ff x0 x1;go_wp2_with fail;refine X.mono ?_;rintro x w9 ⟨rfl,fI⟩;have N:ah (St w9 V e ts v bl al R (fun r=>og e acc (o,b) r) C c7 p7):=oa.later fI;have oF:ah (w.grownBy w9 (Z V)):=mh uS (fI.mono uS.size);have DK:ah (bO pk w9 w.heap.size 119 2 (O rh (acc.length+1) c8) (acc++[(o,b)])):=AM.below qU fI;clear X fI;cases r9 with
      | false=>
       have di:St w9 V e ts v bl al R (fun r=>(ag.aR e [125] r).bind fun _ r3=>.ok (acc++[(o,b)]) r3) C c7 p7:=by
        refine⟨N.1,?_⟩;rcases N.2 with⟨d,s⟩| d
        ·exact .inl ⟨d,by rw[s];exact ajK B5⟩
        ·exact .inr d
       have eI:=oK (K:=fun r3=>.ok (acc++[(o,b)]) r3) dK (ji (by decide)) (by decide) di;clear di;go_wp2_with fail;refine eI.mono ?_;rintro x wz ⟨rfl,mV,kz,cz,pz,ct⟩;have aT:ah (w9.grownBy wz (Z V)):=mV;have IR:ah (St wz V e ts v bl al R (fun r3=>.ok (acc++[(o,b)]) r3) kz cz pz):=ct;clear eI mV ct;go_wp2;go_ret;refine⟨oF.trans aT,?_⟩;rcases IR.2 with⟨d,s⟩|⟨d,s,q,h3,h4⟩
       ·have h5:=IR.1;rw[d] at h5;exact .inl ⟨_,_,_,_,s,rfl,DK.grown qU aT ad.lt,h5⟩
       ·have h5:=IR.1;rw[s,h3] at h5;exact .inr ⟨_,_,_,h4,rfl,⟨_,_,_,rfl⟩,d,h5⟩
      | true=>
       have kt:C<ts.length:=J2 (by decide) B5;have bj:ah (C<ts.length):=kt;have vD:c7=0/\R=og e acc (o,b) (ts.drop C):=by
        rcases N.2 with d |⟨_,d,_⟩
        ·exact d
        ·omega
       obtain⟨Lg,xE⟩:=vD;subst Lg;have jk:ah (R=og e acc (o,b) (ts.drop C)):=xE;clear xE kt;by_cases hf:acc.length=199
       ·have eG:=wT 2 N.1;have HF:ah (acc.length=199):=hf;have bs:199<=acc.length:=(by omega);have hd:decide ((200:Int)<=(acc.length:Int)+1)=ap:=(by simp;omega);clear hf;go_wp2_with fail;refine eG.mono ?_;rintro x wz ⟨rfl,bB⟩;have bk:ah (Dx w9 V e ts v C 0 p7 bl al 2 wz):=bB;clear bB eG;go_wp2;go_ret;obtain⟨h8,E⟩:=bk.out;rw[if_pos rfl,if_pos rfl] at E;exact⟨oF.trans h8,.inr ⟨2,_,_,by rw[jk.out];exact ajJ B5 HF,rfl,⟨_,_,_,rfl⟩,by decide,E⟩⟩
       ·have hd:decide ((200:Int)<=(acc.length:Int)+1)=ak:=(by simp;omega);have jO:acc.length<199:=(by omega);obtain⟨q0,q1,_⟩:=N.1.cells;have z1:=N.1.free 1;have aK:=N.1.lt;have mU:C<=100000:=Nat.le_trans N.1.le N.1.jZ;obtain⟨pF,mz⟩:=N.1.next bj;have uR:ah (Ut w (w9.setCell (Y V 1 U) (A I ((C:Int)+1))) V e ts v bl al R (O rh (acc.length+1) c8) (acc.length+1)):=(by refine⟨acc++[(o,b)],C+1,p7,by simp,oF.trans pF,DK.grown qU pF ad.lt,mz,?_⟩;rw[jk.out];exact ajI B5 jO);clear hf pF mz;go_wp2;refine⟨⟨rh,acc.length+1,c8,rfl,by omega,uR.out⟩,?_⟩;simp only[lenOf];omega
  ·have KO:(c1 !=0)=ap:=(by simpa using hc);have HC:ah (c1≠0):=hc;have bn:ah (Tx w2 V e ts v ts.length c1 (q:Int) bl al):=(by have E:=H2.out;rw[s,h3] at E;exact E);have U3:ah (R=.no c1 q):=h4;clear hc s h3 h4;go_wp2;go_ret;exact⟨dX.out,.inr ⟨_,_,_,U3.out,rfl,⟨_,_,_,rfl⟩,HC.out,bn.out⟩⟩
open ag (Tok Po Tr nx bI aO ba aA)
theorem dS.imp {b:Type}{c:aA b}{d f:au->b->aw->Prop}(h:dS w rb e bl z c d x w')(k:∀a u,d w' a u->f w' a u):dS w rb e bl z c f x w':=by
 obtain⟨g,⟨a,r,i,u,j,l,m,n⟩| h⟩:=h
 ·exact⟨g,.inl ⟨a,r,i,u,j,l,k a u m,n⟩⟩
 ·exact⟨g,.inr h⟩
theorem FR {b:Nat}{x y:aw}{e:TypeId}(h:w.heap[b]? =Z (M #[x,y] e)):
 (w.cell? (Y b 0 U)=Z x/\w.cell? (Y b 1 U)=Z y)/\w.frozen? (Y b 0 U)=ak/\w.frozen? (Y b 1 U)=ak:=by
 refine⟨⟨?_,?_⟩,?_,?_⟩<;>simp[aN,World.frozen?,h]
theorem Yn (h:Rd w rb e bl z ts v):
 aC prog 73 (#[aB (Z (Y rb 0 U))]++#[]) w (dS w rb e bl z (ag.bR e ts) (VS w.heap.size)):=
 (uh h).mono fun _ _ c=>c.imp fun a _ b=>⟨a,b.1,rfl,b.2⟩
theorem agO (h:Rd w rb e bl z ts v):
 aC prog 126 #[aB (Z (Y rb 0 U))] w (dS w rb e bl z (ag.mQ e ts) (VP w.heap.size)):=by
 have lO:∀(fn:Fn) (first ad:Av) (w:au),(Instr.makeFunc fn first ad).run prog w=.ok (.func fn first ad) w:=fun _ _ _ _=>rfl;have f0:=Tp;have dz:=h.lt;obtain⟨w0,u⟩:=nm (w.alloc (M #[H ⟨#[]⟩,O U 0 0] 119));have R:=eS u;have fE:=uJ u;have bU:=aa u;have ao:=am (h.keeps R h.lt);have HE:ah (ag.mQ e ts=(ag.bR e ts).bind fun o r=>(ag.aR e [58] r).bind fun _ a=>if(nx a).1=1 then(ag.dT e [44] 6 (ag.bR e) a).bind fun l g=>.ok (o,l) g else .ok (o,[]) a):=rfl;clear h;go_enter func126,ntmps126;go_wp2_with fail;rw[<-u];refine(uh ao).mono ?_;rintro x i ⟨t,⟨o,r1,y,u1,v1,rfl,⟨rfl,vC⟩,j⟩|⟨c1,q1,y,rfl,r1,v1,j⟩⟩
 ·have gV:ah (ag.mQ e ts=(ag.aR e [58] r1).bind fun _ a=>if(nx a).1=1 then(ag.dT e [44] 6 (ag.bR e) a).bind fun l g=>.ok (o,l) g else .ok (o,[]) a):=(by show _=_;rw[HE.out,y];rfl);have fL:=am (cU (dN _ R) t);have bZ:=t.size;have pB:=(t.block _ (by omega) (by simp;omega)).trans bU;obtain⟨iQ,B⟩:∃iQ,iQ=i.alloc (M #[H o,O U 0 0] 119):=⟨_,rfl⟩;have C:=eS B;have eY:=uJ B;have C0:=aa B;have H1:=am (j.keeps C j.lt);have ae:=(C.block _ (by omega)).trans pB;have gC:=am ae;have ar:=am C0;have af:=am (mH fL C);clear t j y pB ae C0 C;go_wp2_with fail;rw[<-B];refine(iI _ (by decide) H1).mono ?_;rintro x w2 ⟨n,⟨a2,a,E,u2,v2,rfl,rfl,m⟩|⟨c2,q2,E,rfl,a,v2,m⟩⟩
  ·have rx:ah (ag.mQ e ts=if(nx a).1=1 then(ag.dT e [44] 6 (ag.bR e) a).bind fun l g=>.ok (o,l) g else .ok (o,[]) a):=(by show _=_;rw[gV.out,show([58]:Lu)=(⟨#[58]⟩:Bt).data.toList from rfl,E];rfl);have dX:=am (cU af n);have bA:=n.size;have eF:=am ((n.block _ (by omega) (by simp;omega)).trans gC);have L9:=am ((n.block _ (by omega) (by simp;omega)).trans ar);have S:=am m;clear n m E;go_wp2_with fail;refine(yr S).mono ?_;rintro x w3 ⟨rfl,c⟩;have qg:=c.size;have T:=am (mH dX c);have F:=(c.block _ (by omega)).trans eF;have G:=(c.block _ (by omega)).trans L9;have H3:=am (S.keeps c S.lt);clear c;by_cases f:(nx a).1=1
   ·have mU:((nx a).1==1)=ap:=(by simp[f]);have pX:ah (ag.mQ e ts=(ag.dT e [44] 6 (ag.bR e) a).bind fun l g=>.ok (o,l) g):=(by show _=_;rw[rx.out,if_pos f]);have HL:=YB H3 ⟨#[44]⟩ (by decide) 6 (by omega) (by omega) 73 #[aB (Z (Y rb 0 U))] #[] (enters_of func73 (by kernel_rfl) rfl) (ag.bR e) (fun w' cj v' _ hr=>Yn hr);have ni:=am F;have F9:=am G;clear F G f;go_wp2_with fail;refine HL.mono ?_;rintro x w4 ⟨dg,⟨l,r4,K,u4,v4,rfl,V,L⟩|⟨c4,q4,K,rfl,r4,v4,L⟩⟩
    ·obtain⟨N,P,rfl⟩:=V.slice;have d:ah (ag.mQ e ts=.ok (o,l) r4):=(by show _=_;rw[pX.out,show([44]:Lu)=(⟨#[44]⟩:Bt).data.toList from rfl,K];rfl);have vA:=dg.size;have ai:=(dg.block _ (by omega) (by simp;omega)).trans ni;have Hs:=(dg.block _ (by omega) (by simp;omega)).trans F9;obtain⟨⟨W,X⟩,g0,g1⟩:=FR ai;obtain⟨⟨i0,i1⟩,j0,j1⟩:=FR Hs;obtain⟨p,b⟩:=nm (((w4.setCell (Y i.heap.size 1 U) (O N l.length P)).setCell (Y w.heap.size 0 U) (H o)).setCell (Y w.heap.size 1 U) (O N l.length P));have Fm:∀k,k≠i.heap.size->k≠w.heap.size->p.heap[k]? =w4.heap[k]? :=fun k j m=>(by rw[b,dL _ _ _ _ m,dL _ _ _ _ m,dL _ _ _ _ j]);have Q:aq w.heap.size w4 p:=⟨by rw[b];rfl,by rw[b];rfl,by rw[b];rfl,by rw[b];simp[bw],fun k f=>Fm k (by omega) (by omega)⟩;have HV:ah (pk p (fun q=>w.heap.size<=q) (o,l) [H o,O N l.length P]):=⟨_,rfl,vC,(V.strs.keeps ⟨Q.size,fun q hb _=>Fm q (by omega) (by omega)⟩).mono fun q hb _=>by omega⟩;have Cf:=am (((Fr.bP (cU T dg) (aD _)).trans (Fr.bm Q)).grown);have jA:=am (L.keeps Q (by omega));have tX:=am b;have bh:¬i.heap.size=w.heap.size:=(by omega);have av:¬w.heap.size=i.heap.size:=(by omega);clear dg V L K ai Hs Fm Q b HL;go_wp2;refine bodyPost_ret (v:=.agg #[H o,O N l.length P]) (by simp[results,results126,go_sem,W,X]) rfl ?_;rw[<-tX.out];exact⟨Cf.out,.inl ⟨_,_,d.out,_,_,rfl,⟨_,_,_,_,rfl,HV.out⟩,jA.out⟩⟩
    ·have d:ag.mQ e ts=.no c4 q4:=(by rw[pX.out,show([44]:Lu)=(⟨#[44]⟩:Bt).data.toList from rfl,K];rfl);exact⟨rfl,cU T dg,.inr ⟨_,_,d,rfl,_,_,L⟩⟩
   ·have mU:((nx a).1==1)=ak:=(by simp[f]);have d:ah (ag.mQ e ts=.ok (o,[]) a):=(by show _=_;rw[rx.out,if_neg f]);obtain⟨⟨W,X⟩,g0,g1⟩:=FR F;obtain⟨⟨i0,i1⟩,j0,j1⟩:=FR G;obtain⟨p,b⟩:=nm ((w3.setCell (Y w.heap.size 0 U) (H o)).setCell (Y w.heap.size 1 U) (O U 0 0));have c:aq w.heap.size w3 p:=⟨by rw[b];rfl,by rw[b];rfl,by rw[b];rfl,by rw[b];simp[bw],fun k f=>by rw[b,dL _ _ _ _ (by show k≠w.heap.size;omega),dL _ _ _ _ (by show k≠w.heap.size;omega)]⟩;have HV:ah (pk p (fun q=>w.heap.size<=q) (o,[]) [H o,O U 0 0]):=⟨_,rfl,vC,⟨gj.none _ _ _ _,fun s hs=>by cases hs⟩⟩;have Cf:=am (((Fr.bP T (aD _)).trans (Fr.bm c)).grown);have jA:=am (H3.keeps c (by omega));have tX:=am b;have bh:¬i.heap.size=w.heap.size:=(by omega);have av:¬w.heap.size=i.heap.size:=(by omega);clear F G c b f;go_wp2;refine bodyPost_ret (v:=.agg #[H o,O U 0 0]) (by simp[results,results126,go_sem,W,X]) rfl ?_;rw[<-tX.out];exact⟨Cf.out,.inl ⟨_,_,d.out,_,_,rfl,⟨_,_,_,_,rfl,HV.out⟩,jA.out⟩⟩
  ·have d:ag.mQ e ts=.no c2 q2:=(by rw[gV.out,show([58]:Lu)=(⟨#[58]⟩:Bt).data.toList from rfl,E];rfl);exact⟨rfl,cU af n,.inr ⟨_,_,d,rfl,_,_,m⟩⟩
 ·have d:ag.mQ e ts=.no c1 q1:=(by rw[HE.out,y];rfl);exact⟨rfl,cU (dN _ R) t,.inr ⟨_,_,d,rfl,_,_,j⟩⟩
theorem agN (h:Rd w rb e bl z ts v):
 aC prog 126 (#[aB (Z (Y rb 0 U))]++#[]) w (dS w rb e bl z (ag.mQ e ts) (VP w.heap.size)):=agO h
def aqv (B:Nat)(w':au)(a:List Po)(u:aw):Prop:=∃(ao:Oa) (n c:Nat),u=O ao n c/\dw w' (fun b=>B<=b) u a
theorem JX (h:Rd w rb e bl z ts v):
 aC prog 80 #[aB (Z (Y rb 0 U))] w (dS w rb e bl z (ag.fX e ts) (aqv w.heap.size)):=by
 have y:∀(j:Fn) (first k:Av) (w:au),(Instr.makeFunc j first k).run prog w=.ok (.func j first k) w:=fun _ _ _ _=>rfl;have m:=anG h ⟨#[123]⟩ ⟨#[59]⟩ ⟨#[125]⟩ (by decide) (by decide) (by decide) 200 (by omega) (by omega) 126 #[aB (Z (Y rb 0 U))] #[] (enters_of func126 (by kernel_rfl) rfl) (ag.mQ e) (fun w' C E _ p=>agN p);clear h;go_enter func80,ntmps80;go_wp2_with fail;refine m.mono ?_;rintro x d ⟨f,⟨l,g,a,F,n,rfl,⟨B,G,i⟩,b⟩|⟨K,L,a,rfl,g,n,b⟩⟩
 ·obtain⟨q,c,rfl⟩:=i.slice;have r:ah (w.grownBy d (Z rb)):=f;have s:ah (ag.fX e ts=.ok l g):=a;have t:ah (dw d (fun o=>w.heap.size<=o) (O q l.length c) l):=i.label.mono fun o N _=>(by omega);have u:ah (Rd d rb e bl z g n):=b;clear f a i b m;go_wp2;go_ret;exact⟨r.out,.inl ⟨_,_,s.out,_,_,rfl,⟨_,_,_,rfl,t.out⟩,u.out⟩⟩
 ·exact⟨rfl,f,.inr ⟨_,_,a,rfl,_,_,b⟩⟩
def ZE:Av:=#[A I 0,A I 0,A I 0,A I 0,H ⟨#[]⟩,O U 0 0,O U 0 0]
theorem Dk {t:Tr}(d:w.grownBy wz (Z rb))(i:Rd wz rb e bl z r v)(l:rb<w.heap.size)(j:aS wz (fun b=>w.heap.size+1<=b) t [y0,y1,y2,y3,y4,y5,y6]):
 w.grownBy (((((((wz.setCell (Y w.heap.size 0 U) y0).setCell (Y w.heap.size 1 U) y1).setCell (Y w.heap.size 2 U) y2).setCell (Y w.heap.size 3 U) y3).setCell (Y w.heap.size 4 U) y4).setCell (Y w.heap.size 5 U) y5).setCell (Y w.heap.size 6 U) y6) (Z rb)/\
 Rd (((((((wz.setCell (Y w.heap.size 0 U) y0).setCell (Y w.heap.size 1 U) y1).setCell (Y w.heap.size 2 U) y2).setCell (Y w.heap.size 3 U) y3).setCell (Y w.heap.size 4 U) y4).setCell (Y w.heap.size 5 U) y5).setCell (Y w.heap.size 6 U) y6) rb e bl z r v/\
 aS (((((((wz.setCell (Y w.heap.size 0 U) y0).setCell (Y w.heap.size 1 U) y1).setCell (Y w.heap.size 2 U) y2).setCell (Y w.heap.size 3 U) y3).setCell (Y w.heap.size 4 U) y4).setCell (Y w.heap.size 5 U) y5).setCell (Y w.heap.size 6 U) y6) (fun b=>w.heap.size<=b) t [y0,y1,y2,y3,y4,y5,y6]:=by
 obtain⟨f,g⟩:=nm ((((((((wz.setCell (Y w.heap.size 0 U) y0).setCell (Y w.heap.size 1 U) y1).setCell (Y w.heap.size 2 U) y2).setCell (Y w.heap.size 3 U) y3).setCell (Y w.heap.size 4 U) y4).setCell (Y w.heap.size 5 U) y5).setCell (Y w.heap.size 6 U) y6));have a:wz.grownBy f (Z w.heap.size):=(by rw[g];exact ET);rw[<-g];have c:aq w.heap.size wz f:=⟨a.os,a.tape,a.output,a.size,fun k h=>a.block k (by have:=d.size;omega) (by simp;omega)⟩;refine⟨((Fr.bP d (aD _)).trans (Fr.bm c)).grown,i.keeps c (by omega),(j.keeps (aP.bP a fun b c=>by simp;omega)).mono fun b c _=>by omega⟩
theorem Xg {x:Tr}(hx:aS w S x cx)(a:aS w S y cy)(hS:S w.heap.size)(e:TypeId):gj (w.alloc (M (cx++cy).toArray e)) S 7 (O (Z (Y w.heap.size 0 U)) 2 2) [cx,cy]:=
 gj.new rfl (by simp[maxLen]) (by simp) (fun i b=>by
  match i,b with
  | 0,_=>exact hx.len
  | 1,_=>exact a.len) hS
theorem QX {x:Tr}(hx:aS w S x cx)(hS:S w.heap.size)(e:TypeId):gj (w.alloc (M cx.toArray e)) S 7 (O (Z (Y w.heap.size 0 U)) 1 1) [cx]:=
 gj.new rfl (by simp[maxLen]) (by simp) (fun i a=>by
  match i,a with
  | 0,_=>exact hx.len) hS
theorem kE (w:au)(S:Np):dw w S (O U 0 0) []:=⟨⟨[],rfl,gj.none _ _ _ _,fun i a=>by simp at a⟩,fun p b=>by cases b⟩
theorem ahG {x:Tr}(d:t.2.2.length<=4000)(hx:aS w S x cx)(a:aS w S y cy)(hS:S w.heap.size)(e:TypeId):
 aS (w.alloc (M (cx++cy).toArray e)) S (ag.eK t [x,y]) [A I 3,A I (t.2.1:Int),A I 0,A I 0,H (ba t.2.2),O U 0 0,O (Z (Y w.heap.size 0 U)) 2 2]:=by
 have b:aP S w (w.alloc (M (cx++cy).toArray e)):=aP.bm ((aF _ _).alloc (aD _) _);refine .mk (by rw[vR];unfold maxLen;omega) (kE _ _) (Xg hx a hS e) rfl (fun i c f=> ?_)
 match i,c with
 | 0,_=>exact hx.keeps b
 | 1,_=>exact a.keeps b
theorem ahH {x:Tr}(c:t.2.2.length<=4000)(hx:aS w S x cx)(hS:S w.heap.size)(e:TypeId):
 aS (w.alloc (M cx.toArray e)) S (ag.eK t [x]) [A I 3,A I (t.2.1:Int),A I 0,A I 0,H (ba t.2.2),O U 0 0,O (Z (Y w.heap.size 0 U)) 1 1]:=by
 have a:aP S w (w.alloc (M cx.toArray e)):=aP.bm ((aF _ _).alloc (aD _) _);refine .mk (by rw[vR];unfold maxLen;omega) (kE _ _) (QX hx hS e) rfl (fun i b d=> ?_)
 match i,b with
 | 0,_=>exact hx.keeps a
def IH (rb e:Nat)(bl pr:Int)(P:List Tok->aA Tr):Prop:=∀(w:au) (ts:List Tok) (v:aw),Rd w rb e bl pr ts v->aC prog 160 #[aB (Z (Y rb 0 U))] w (dS w rb e bl pr (P ts) (VE w.heap.size))
def MG (rb e:Nat)(bl pr:Int)(P:List Tok->aA Tr)(j:Nat):Prop:=∀(w:au) (ts:List Tok) (v:aw),Rd w rb e bl pr ts v->aC prog 115 #[aB (Z (Y rb 0 U)),A I ((6 - j:Nat):Int)] w (dS w rb e bl pr (ag.bd P j ts) (VE w.heap.size))
theorem app (j:IH rb e bl z P):MG rb e bl z P 0:=by
 intro w ts v h;have n:=h.lt;obtain⟨o,b⟩:=nm (w.alloc (M ZE 48));have c:=eS b;have s:=uJ b;have k:=aa b;have l:=j o ts v (h.keeps c h.lt);unfold ZE at b;clear h j;go_enter func115,ntmps115;go_wp2_with fail;rw[<-b];refine l.mono ?_;rintro x V ⟨d,⟨a,r,f,u,t,rfl,⟨z0,z1,z2,G,L,N,C,d5,z6,m6,d6,rfl,hx⟩,g⟩|⟨W,q,f,rfl,r,t,g⟩⟩
 ·have i:=(d.block _ (by omega) (by simp;omega)).trans k;have X:=J i;unfold ZE at i;obtain⟨⟨y,B,E,F,K,Q,R⟩,p0,p1,p2,p3,p4,p5,p6⟩:=fa i;have m:=Hid.out (p:=_) (show ah _ from Dk (cU (dN _ c) d) g n (by rw[s] at hx;exact hx));have S:=am m;have T:=am f;clear d hx g i m f l k c;go_wp2;refine bodyPost_ret (v:=.agg #[A I z0,A I z1,A I z2,A I G,H L,O N C d5,O z6 m6 d6]) (by simp[results,results115,go_sem,y,B,E,F,K,Q,R]) rfl ?_;obtain⟨f1,f2,f3⟩:=S.out;exact⟨f1,.inl ⟨_,_,T.out,_,_,rfl,⟨_,_,_,_,_,_,_,_,_,_,_,rfl,f3⟩,f2⟩⟩
 ·exact⟨rfl,cU (dN _ c) d,.inr ⟨_,_,f,rfl,_,_,g⟩⟩
def leftOf (w:au)(rb:Nat):Nat:=match w.cell? (Y rb 0 U) with | some (O _ n _)=>n | _=>0
theorem YP (h:Rd w rb e bl z ts v):leftOf w rb=ts.length:=by
 obtain⟨b,d,f,c,a,_⟩:=h.row;unfold leftOf;rw[h.cells.1,a];simp
theorem Rd.drew (h:Rd w rb e bl z ts v):Rd w.drew rb e bl z ts v:=h.keeps (B:=w.heap.size) ⟨rfl,rfl,rfl,aD _,fun _ _=>rfl⟩ h.lt
theorem ajF (h:Rd w' rb e bl z ts v)(g:leftOf w rb=n+1)(a:ts.length<=n):leftOf w' rb<leftOf w rb:=by
 rw[YP h,g];omega
structure Lp (w wr:au)(rb e X:Nat)(bl pr:Int)(Q:List Tok->aA Tr)(lv:Nat)(all:aA Tr)(y:Tr)(cs:Lv)(ts:List Tok)(v:aw):Prop where
 rd:Rd wr rb e bl pr ts v
 gr:w.grownBy wr (Z rb)
 res:wr.heap[w.heap.size]? =Z (M ZE 48)
 xb:wr.heap[X]? =Z (M cs.toArray 48)
 kO:w.heap.size<X
 tr:aS wr (fun b=>w.heap.size+1<=b/\b≠X) y cs
 eq:all=ag.ja Q lv ts.length y ts
theorem RE (h:¬ag.dW (nx ts).2.2=lv):ag.ja Q lv ts.length y ts=.ok y ts:=by
 cases hn:ts.length with
 | zero=>rfl
 | succ n=>unfold ag.ja;rw[if_neg h]
theorem aiQ (h:ag.dW t.2.2=lv)(d:ag.du Q)(e:0<lv):ag.ja Q lv (t::r).length y (t::r)=(Q r).bind fun b a=>ag.ja Q lv a.length (ag.eK t [y,b]) a:=by
 show ag.ja Q lv (r.length+1) y (t::r)=_
 conv=>lhs;unfold ag.ja
 rw[if_pos (show ag.dW (nx (t::r)).2.2=lv from h)];show(Q r).bind (fun b a=>ag.ja Q lv r.length (ag.eK t [y,b]) a)=_;cases hq:Q r with
 | no c q=>rfl
 | ok b a=>exact ag.ajd d e _ _ _ _ (d _ _ _ hq).length_le (aD _)
theorem aiP {c:au}{all:aA Tr}{i:Tr}{y0 y1 y2 y3:Int}{y4:Bt}{y5:Oa}{j:Nat}{y6:Oa}{l:Nat}
 (q:w.grownBy c (Z rb)) (g:c.drew.grownBy w4 (Z rb)) (r:w4.heap[X]? =Z (M #[A I z0,A I z1,A I z2,A I G,H L,O N C d5,O z6 m6 d6] 48)) (s:c.heap[w.heap.size]? =Z (M ZE 48)) (u:aS c (fun b=>w.heap.size+1<=b/\b≠X) y [A I z0,A I z1,A I z2,A I G,H L,O N C d5,O z6 m6 d6]) (v:od w4 (fun b=>c.drew.heap.size<=b) i [A I y0,A I y1,A I y2,A I y3,H y4,O y5 n5 j,O y6 n6 l]) (x:Rd w4 rb e bl z r4 v4)
 (B:w.heap.size<X) (W:X<c.heap.size) (E:rb<w.heap.size) (F:t.2.2.length<=4000) (K:all=ag.ja Q lv r4.length (ag.eK t [y,i]) r4):
 Lp w ((((((((w4.setCell (Y X 0 U) (A I 3)).setCell (Y X 1 U) (A I (t.2.1:Int))).setCell (Y X 2 U) (A I 0)).setCell (Y X 3 U) (A I 0)).setCell (Y X 4 U) (H (ba t.2.2))).setCell (Y X 5 U) (O U 0 0)).setCell (Y X 6 U) (O (Z (Y w4.heap.size 0 U)) 2 2)).alloc (M #[A I z0,A I z1,A I z2,A I G,H L,O N C d5,O z6 m6 d6,A I y0,A I y1,A I y2,A I y3,H y4,O y5 n5 j,O y6 n6 l] 48)) rb e X bl z Q lv all (ag.eK t [y,i]) [A I 3,A I (t.2.1:Int),A I 0,A I 0,H (ba t.2.2),O U 0 0,O (Z (Y w4.heap.size 0 U)) 2 2] r4 v4:=by
 obtain⟨a,m⟩:∃a,a=(((((((w4.setCell (Y X 0 U) (A I 3)).setCell (Y X 1 U) (A I (t.2.1:Int))).setCell (Y X 2 U) (A I 0)).setCell (Y X 3 U) (A I 0)).setCell (Y X 4 U) (H (ba t.2.2))).setCell (Y X 5 U) (O U 0 0)).setCell (Y X 6 U) (O (Z (Y w4.heap.size 0 U)) 2 2)):=⟨_,rfl⟩;have d:w4.grownBy a (Z X):=(by rw[m];exact ET);have P:a.heap.size=w4.heap.size:=(by rw[m];simp[bw]);have R:a.heap[X]? =Z (M ([A I 3,A I (t.2.1:Int),A I 0,A I 0,H (ba t.2.2),O U 0 0,O (Z (Y w4.heap.size 0 U)) 2 2]:Lv).toArray 48):=(by rw[m];simp[bw,dM,r]);rw[<-m];have vA:c.heap.size<=w4.heap.size:=g.size;have o:aq w.heap.size w4 a:=⟨d.os,d.tape,d.output,d.size,fun k h=>d.block k (by omega) (by simp;omega)⟩;have n:Bl a (a.alloc (M #[A I z0,A I z1,A I z2,A I G,H L,O N C d5,O z6 m6 d6,A I y0,A I y1,A I y2,A I y3,H y4,O y5 n5 j,O y6 n6 l] 48)):=(aF _ _).alloc (aD _) _;have S:aS a (fun b=>w.heap.size+1<=b/\b≠X) y [A I z0,A I z1,A I z2,A I G,H L,O N C d5,O z6 m6 d6]:=(u.keeps (w':=w4) ⟨g.size,fun b f T=>g.block b T (by have:=f.1;simp;omega)⟩).keeps (aP.bP d fun b f=>by have:=f.2;simp;exact this);have V:aS a (fun b=>w.heap.size+1<=b/\b≠X) i [A I y0,A I y1,A I y2,A I y3,H y4,O y5 n5 j,O y6 n6 l]:=(aS.mono v fun b (f:c.heap.size<=b) _=>⟨by omega,by omega⟩).keeps (aP.bP d fun b f=>by have:=f.2;simp;exact this);have p:=ahG (t:=t) F S V (by constructor<;>omega) 48;refine⟨(x.keeps o E).keeps n (by omega),mH (((Fr.bP (cU (Te q) g) (aD _)).trans (Fr.bm o)).grown) n,?_,(n.block _ (by omega)).trans R,B,?_,K⟩
 ·rw[n.block _ (by omega),d.block _ (by omega) (by simp;omega),g.block _ (show w.heap.size<c.heap.size by omega) (by simp;omega)];exact s
 ·rw[P] at p;exact p
def rz (rb e:Nat)(bl pr:Int)(E:List Tok->aA Tr):Prop:=∀(w:au) (ts:List Tok) (v:aw),Rd w rb e bl pr ts v->aC prog 61 #[aB (Z (Y rb 0 U))] w (dS w rb e bl pr (E ts) (VE w.heap.size))
theorem abs (j:MG rb e bl z P 5):rz rb e bl z (ag.bd P 5):=by
 intro w ts v h;have n:=h.lt;obtain⟨o,b⟩:=nm (w.alloc (M ZE 48));have c:=eS b;have p:=uJ b;have k:=aa b;have l:=j o ts v (h.keeps c h.lt);unfold ZE at b;clear h j;go_enter func61,ntmps61;go_wp2_with fail;rw[<-b];refine l.mono ?_;rintro x T ⟨d,⟨a,r,f,u,s,rfl,⟨z0,z1,z2,G,L,N,C,d5,z6,m6,d6,rfl,hx⟩,g⟩|⟨V,q,f,rfl,r,s,g⟩⟩
 ·have i:=(d.block _ (by omega) (by simp;omega)).trans k;have W:=J i;unfold ZE at i;obtain⟨⟨t,y,B,E,F,K,Q⟩,p0,X,p2,p3,p4,p5,p6⟩:=fa i;have m:=Dk (cU (dN _ c) d) g n (by rw[p] at hx;exact hx);have R:=am m;have S:=am f;clear d hx g i m f l k c;go_wp2;refine bodyPost_ret (v:=.agg #[A I z0,A I z1,A I z2,A I G,H L,O N C d5,O z6 m6 d6]) (by simp[results,results61,go_sem,t,y,B,E,F,K,Q]) rfl ?_;obtain⟨f1,f2,f3⟩:=R.out;exact⟨f1,.inl ⟨_,_,S.out,_,_,rfl,⟨_,_,_,_,_,_,_,_,_,_,_,rfl,f3⟩,f2⟩⟩
 ·exact⟨rfl,cU (dN _ c) d,.inr ⟨_,_,f,rfl,_,_,g⟩⟩
theorem abU (o:rz rb e bl z E)(h:Rd w rb e bl z ts v)(q:Nat)(s:Bt)(N:s.size<=maxLen):
 aC prog 180 #[aB (Z (Y rb 0 U)),A I (q:Int),H s] w (dS w rb e bl z ((ag.ei e [40] [44] [41] 4 E ts).bind fun a r=>.ok (Tr.mk 4 q 0 0 s [] a) r) (VE w.heap.size)):=by
 have lO:∀(p:Fn) (first t:Av) (w:au),(Instr.makeFunc p first t).run prog w=.ok (.func p first t) w:=fun _ _ _ _=>rfl;have P:=h.lt;obtain⟨w0,d⟩:=nm (w.alloc (M ZE 48));have f:=eS d;have fE:=uJ d;have y:=aa d;have C:=anI (h.keeps f h.lt) ⟨#[40]⟩ ⟨#[44]⟩ ⟨#[41]⟩ (by decide) (by decide) (by decide) 4 (by omega) (by omega) 61 #[aB (Z (Y rb 0 U))] #[] (enters_of func61 (by kernel_rfl) rfl) E (fun w' Q R _ b=>o w' Q R b);unfold ZE at d;clear h o;go_enter func180,ntmps180;go_wp2_with fail;rw[<-d];refine C.mono ?_;rintro x S ⟨g,⟨a,r,b,u,T,rfl,⟨B,hB,m⟩,j⟩|⟨F,k,b,rfl,r,T,j⟩⟩
 ·obtain⟨G,c,rfl⟩:=m.slice;have l:=(g.block _ (by omega) (by simp;omega)).trans y;have jE:=J l;unfold ZE at l;obtain⟨⟨V,k,W,X,q4,q5,q6⟩,p0,p1,p2,p3,p4,p5,p6⟩:=fa l;have K:aS S (fun n=>w.heap.size+1<=n) (.mk 4 q 0 0 s [] a) [A I 4,A I (q:Int),A I 0,A I 0,H s,O U 0 0,O G a.length c]:=(by obtain⟨ad,k1,k2,k3⟩:=(m.row oQ);exact .mk N (kE _ _) (k1.mono fun n hb _=>by omega) k2 (fun i hi cY=>aS.mono (k3 i hi cY) fun n hb _=>by omega));have L:=Dk (cU (dN _ f) g) j P K;have kw:=am L;have HR:ah (((ag.ei e [40] [44] [41] 4 E ts).bind fun a r=>.ok (Tr.mk 4 q 0 0 s [] a) r)=.ok (Tr.mk 4 q 0 0 s [] a) r):=(by show _=_;rw[show ag.ei e [40] [44] [41] 4 E ts=.ok a r from b];rfl);clear g j l L b C y f m K;go_wp2;refine bodyPost_ret (v:=.agg #[A I 4,A I (q:Int),A I 0,A I 0,H s,O U 0 0,O G a.length c]) (by simp[results,results180,go_sem,V,k,W,X,q4,q5,q6]) rfl ?_;obtain⟨f1,f2,f3⟩:=kw.out;exact⟨f1,.inl ⟨_,_,HR.out,_,_,rfl,⟨_,_,_,_,_,_,_,_,_,_,_,rfl,f3⟩,f2⟩⟩
 ·refine⟨rfl,cU (dN _ f) g,.inr ⟨F,k,?_,rfl,_,_,j⟩⟩;rw[show ag.ei e [40] [44] [41] 4 E ts=.no F k from b];rfl
theorem CM (k p n t:Int)(a:s.size<=maxLen):aS w S (.mk k p n t s [] []) [A I k,A I p,A I n,A I t,H s,O U 0 0,O U 0 0]:=
 .mk a (kE _ _) (gj.none _ _ _ _) rfl (fun i b=>by simp at b)
theorem aiq (hE:rz rb e bl z E)(h:Rd w rb e bl z (t::r) v)(T:t.1=1):
 aC prog 197 #[aB (Z (Y rb 0 U))] w (dS w rb e bl z (ag.qS e E (t::r)) (VE w.heap.size)):=by
 have V:=h.lt;obtain⟨w0,c⟩:=nm (w.alloc (M ZE 48));have W:=eS c;have fE:=uJ c;have X:=aa c;have H0:=am (h.keeps W h.lt);have sq:ah (ag.bR e (t::r)=.ok (ba t.2.2) r):=(by show _=_;unfold ag.bR;rw[if_pos (show(nx (t::r)).1=1 from T)];rfl);have fM:ah (ag.qS e E (t::r)=if aO [40] r=ap then(ag.ei e [40] [44] [41] 4 E r).bind fun a m=>.ok (Tr.mk 4 t.2.1 0 0 (ba t.2.2) [] a) m else .ok (Tr.mk 2 t.2.1 0 0 (ba t.2.2) [] []) r):=rfl;unfold ZE at c;clear h T;go_enter func197,ntmps197;go_wp2_with fail;rw[<-c];clear c;refine(EB H0.out).mono ?_;rintro x Qu ⟨rfl,E7⟩;have ae:=E7.symm;subst ae;rw[show bI e (t::r)=t.2.1 from rfl];go_wp2_with fail;refine(uh H0.out).mono ?_;rintro x w1 ⟨i,⟨a,r1,b,u,v1,rfl,⟨rfl,hz⟩,n⟩|⟨cc,q,b,rfl,r1,v1,n⟩⟩
 ·rw[sq.out] at b;cases b;have fL:=am (cU (dN _ W) i);have bZ:=i.size;have pB:=(i.block _ (by omega) (by simp;omega)).trans X;have o:=am n;have gC:=am pB;clear i n pB X;go_wp2_with fail;refine(ui _ o.out).mono ?_;rintro x w2 ⟨rfl,f⟩;have p:=am (mH fL.out f);have bA:=f.size;have H2:=am (o.keeps f o.lt);have d:=(f.block _ (by omega)).trans gC.out;clear f;cases hi:aO (⟨#[40]⟩:Bt).data.toList r with
  | true=>
   have HC:=abU hE H2.out t.2.1 (ba t.2.2) hz;have ad:ah (ag.qS e E (t::r)=(ag.ei e [40] [44] [41] 4 E r).bind fun a m=>.ok (Tr.mk 4 t.2.1 0 0 (ba t.2.2) [] a) m):=(by show _=_;rw[fM.out,if_pos hi]);have eF:=am d;clear d hi;go_wp2_with fail;refine HC.mono ?_;rintro x w3 ⟨j,⟨a,r3,b,u,v3,rfl,⟨z0,z1,z2,G,L,N,C,d5,z6,m6,d6,rfl,hx⟩,k⟩|⟨cc,q,b,rfl,r3,v3,k⟩⟩
   ·have l:=(j.block _ (by omega) (by simp;omega)).trans eF.out;have dI:=J l;unfold ZE at l;obtain⟨⟨s,y,B,F,K,P,Q⟩,p0,p1,p2,p3,p4,p5,p6⟩:=fa l;have g:=Dk (cU p.out j) k V (aS.mono hx fun af hb _=>by omega);have R:=am g;have S:ah (ag.qS e E (t::r)=.ok a r3):=(by show _=_;rw[ad.out,b]);clear j hx k l g b HC;go_wp2;refine bodyPost_ret (v:=.agg #[A I z0,A I z1,A I z2,A I G,H L,O N C d5,O z6 m6 d6]) (by simp[results,results197,go_sem,s,y,B,F,K,P,Q]) rfl ?_;obtain⟨f1,f2,f3⟩:=R.out;exact⟨f1,.inl ⟨_,_,S.out,_,_,rfl,⟨_,_,_,_,_,_,_,_,_,_,_,rfl,f3⟩,f2⟩⟩
   ·exact⟨rfl,cU p.out j,.inr ⟨cc,q,by rw[ad.out,b],rfl,_,_,k⟩⟩
  | false=>
   have S:ah (ag.qS e E (t::r)=.ok (Tr.mk 2 t.2.1 0 0 (ba t.2.2) [] []) r):=(by show _=_;rw[fM.out,if_neg (by rw[show aO [40] r=ak from hi];simp)]);have iq:=J d;unfold ZE at d;obtain⟨⟨s,y,B,F,K,P,Q⟩,p0,p1,p2,p3,p4,p5,p6⟩:=fa d;have g:=Dk p.out H2.out V (CM 2 (t.2.1:Int) 0 0 hz);have R:=am g;clear d g hi;go_wp2;refine bodyPost_ret (v:=.agg #[A I 2,A I (t.2.1:Int),A I 0,A I 0,H (ba t.2.2),O U 0 0,O U 0 0]) (by simp[results,results197,go_sem,s,y,B,F,K,P,Q]) rfl ?_;obtain⟨f1,f2,f3⟩:=R.out;exact⟨f1,.inl ⟨_,_,S.out,_,_,rfl,⟨_,_,_,_,_,_,_,_,_,_,_,rfl,f3⟩,f2⟩⟩
 ·rw[sq.out] at b;cases b
theorem aaD {e:TypeId}(h:w.heap[X]? =Z (M #[a0,a1,a2,a3,a4,a5,a6] e)):
 (w.setCell (Y X 6 U) u).heap[X]? =Z (M #[a0,a1,a2,a3,a4,a5,u] e)/\(w.setCell (Y X 5 U) u).heap[X]? =Z (M #[a0,a1,a2,a3,a4,u,a6] e):=by
 constructor<;>simp[bw,dM,h]
theorem Rd.own (h:Rd w rb e bl z ts v)(a:rb<X):Rd (w.setCell ⟨X,k,.none⟩ u) rb e bl z ts v:=
 h.keeps ((aF X w).setCell (aD _) u) a
theorem afC (hE:rz rb e bl z E)(h:Rd w rb e bl z (t::r) v)(hk:t.2.2=[114,101,108,101,97,115,101]):
 aC prog 198 #[aB (Z (Y rb 0 U))] w (dS w rb e bl z (ag.qd e E (t::r)) (VE w.heap.size)):=by
 have dz:=h.lt;obtain⟨P,s⟩:∃P,P=w.alloc (M ZE 48):=⟨_,rfl⟩;have cw:Bl w P:=(by rw[s];exact(aF _ _).alloc (aD _) _);have fE:P.heap.size=w.heap.size+1:=(by rw[s];simp);have bU:P.heap[w.heap.size]? =Z (M ZE 48):=(by rw[s];exact cu _ _ _ rfl);have H0:ah (Rd _ _ _ _ _ _ _):=h.keeps cw h.lt;have ad:ah (ag.aR e (⟨#[114,101,108,101,97,115,101]⟩:Bt).data.toList (t::r)=.ok t.2.1 r):=(by show _=_;unfold ag.aR;rw[if_pos (by show(t.2.2==_)=ap;rw[hk];rfl)];rfl);have fM:ah (ag.qd e E (t::r)=(ag.aR e [40] r).bind fun _ r1=>(E r1).bind fun x k=>(ag.aR e [116,111] k).bind fun _ j=>(ag.fX e j).bind fun l r4=>(ag.aR e [41] r4).bind fun _ g=>.ok (Tr.mk 5 t.2.1 0 0 (ba []) l [x]) g):=rfl;have HE:ah (rz _ _ _ _ _):=hE;unfold ZE at s;clear h hk hE;go_enter func198,ntmps198;go_wp2_with fail;rw[<-s];clear s;refine(iI _ (by decide) H0).mono ?_;rintro x c ⟨W,⟨a,r1,Q,u,v1,rfl,rfl,X⟩|⟨cc,q,Q,rfl,r1,v1,X⟩⟩
 ·rw[ad.out] at Q;cases Q;have bZ:=W.size;obtain⟨y,R⟩:∃y,y=c.alloc (M #[A I 5,A I (t.2.1:Int),A I 0,A I 0,H ⟨#[]⟩,O U 0 0,O U 0 0] 48):=⟨_,rfl⟩;have bD:Bl c y:=(by rw[R];exact(aF _ _).alloc (aD _) _);have Bh:y.heap.size=c.heap.size+1:=(by rw[R];simp);have ar:ah (y.heap[c.heap.size]? =Z (M #[A I 5,A I (t.2.1:Int),A I 0,A I 0,H ⟨#[]⟩,O U 0 0,O U 0 0] 48)):=(by show _=_;rw[R];exact cu _ _ _ rfl);have cr:ah (_=Z (Obj.cells ZE _ _)):=(bD.block _ (by omega)).trans ((W.block _ (by omega) (by simp;omega)).trans bU);have Ha:ah (Rd _ _ _ _ _ _ _):=X.keeps bD X.lt;have Ms:ah (w.grownBy y (Z rb)):=mH (cU (dN _ cw) W) bD;clear W X bD bU cw;go_wp2_with fail;rw[<-R];clear R;refine(iI _ (by decide) Ha).mono ?_;rintro x w2 ⟨B,⟨a2,k,fi,u2,v2,rfl,rfl,h2⟩|⟨c2,q2,fi,rfl,k,v2,h2⟩⟩
  ·have rx:ah (ag.qd e E (t::r)=(E k).bind fun x k=>(ag.aR e [116,111] k).bind fun _ j=>(ag.fX e j).bind fun l r4=>(ag.aR e [41] r4).bind fun _ g=>.ok (Tr.mk 5 t.2.1 0 0 (ba []) l [x]) g):=(by show _=_;rw[fM.out,show ag.aR e [40] r=.ok a2 k from fi];rfl);have bA:=B.size;have ju:ah (w2.heap[c.heap.size]? =_):=(B.block _ (by omega) (by simp;omega)).trans ar;have av:ah (w2.heap[w.heap.size]? =_):=(B.block _ (by omega) (by simp;omega)).trans cr;have dX:ah (w.grownBy w2 (Z rb)):=cU Ms B;have HC:=HE.out w2 k v2 h2;clear B h2 fi;go_wp2_with fail;refine HC.mono ?_;rintro x f ⟨F,⟨a3,j,eL,u3,v3,rfl,⟨z0,z1,z2,G,L,N,C,d5,z6,m6,d6,rfl,fY⟩,h3⟩|⟨c3,q3,eL,rfl,j,v3,h3⟩⟩
   ·have pX:ah (ag.qd e E (t::r)=(ag.aR e [116,111] j).bind fun _ j=>(ag.fX e j).bind fun l r4=>(ag.aR e [41] r4).bind fun _ g=>.ok (Tr.mk 5 t.2.1 0 0 (ba []) l [a3]) g):=(by show _=_;rw[rx.out,eL];rfl);have qg:=F.size;have NO:=(F.block c.heap.size (by omega) (by simp;omega)).trans ju;have ax:ah (f.heap[w.heap.size]? =_):=(F.block _ (by omega) (by simp;omega)).trans av;have ez:ah (w.grownBy f (Z rb)):=cU dX F;have bc:=J NO;obtain⟨⟨i0,i1,i2,i3,i4,i5,i6⟩,j0,j1,j2,j3,j4,j5,j6⟩:=fa NO;obtain⟨m,f8⟩:∃m,m=(f.setCell (Y c.heap.size 6 U) (O (Z (Y f.heap.size 0 U)) 1 1)).alloc (M #[A I z0,A I z1,A I z2,A I G,H L,O N C d5,O z6 m6 d6] 48):=⟨_,rfl⟩;have mU:f.grownBy (f.setCell (Y c.heap.size 6 U) (O (Z (Y f.heap.size 0 U)) 1 1)) (Z c.heap.size):=eR (jh _ _) rfl _;have gF:m.heap.size=f.heap.size+1:=(by rw[f8];simp[bw]);have iw:aq c.heap.size f m:=(by rw[f8];exact((aF c.heap.size f).setCell (p:=(Y c.heap.size 6 U)) (aD _) _).alloc (by simp[bw];omega) _);have E1:ah (m.heap[c.heap.size]? =Z (M #[A I 5,A I (t.2.1:Int),A I 0,A I 0,H ⟨#[]⟩,O U 0 0,O (Z (Y f.heap.size 0 U)) 1 1] 48)):=(by show _=_;rw[f8];exact cR (aaD NO).1);have br:ah (_=Z (Obj.cells ZE _ _)):=(iw.block _ (by omega)).trans ax;have OI:aS _ (fun b=>w.heap.size+1<=b/\b≠c.heap.size) _ _:=(aS.mono fY fun b d _=>⟨by omega,by omega⟩).keeps (aP.bP mU fun b d=>by have:=d.2;simp;exact this);have ae:ah (aS m (fun b=>w.heap.size+1<=b/\b≠c.heap.size) a3 (#[A I z0,A I z1,A I z2,A I G,H L,O N C d5,O z6 m6 d6]:Av).toList/\gj m (fun b=>w.heap.size+1<=b/\b≠c.heap.size) 7 (O (Z (Y f.heap.size 0 U)) 1 1) [(#[A I z0,A I z1,A I z2,A I G,H L,O N C d5,O z6 m6 d6]:Av).toList]):=by
     rw[f8];refine⟨OI.keeps (aP.bm ((aF _ _).alloc (aD _) _)),?_⟩;have:=QX OI (by constructor<;>(simp[bw];omega)) 48;simpa[bw] using this
    have Hb:=am (h3.keeps iw (by omega));have zF:=am (((Fr.bP ez (aD _)).trans (Fr.bm (iw.mono (by omega)))).grown);clear F h3 eL fY NO mU iw OI HC;go_wp2_with fail;rw[<-f8];clear f8;refine(iI _ (by decide) Hb).mono ?_;rintro x w4 ⟨dg,⟨a4,r4,gA,u4,v4,rfl,rfl,h4⟩|⟨c4,q4,gA,rfl,r4,v4,h4⟩⟩
    ·have zI:ah (ag.qd e E (t::r)=(ag.fX e r4).bind fun l r4=>(ag.aR e [41] r4).bind fun _ g=>.ok (Tr.mk 5 t.2.1 0 0 (ba []) l [a3]) g):=(by show _=_;rw[pX.out,show ag.aR e [116,111] j=.ok a4 r4 from gA];rfl);have vA:=dg.size;have HL:=JX h4;have Bg:=am ((dg.block _ (by omega) (by simp;omega)).trans E1);have ay:=am ((dg.block _ (by omega) (by simp;omega)).trans br);have lH:=am (cU zF dg);have af:=am (aj (ae.1.keeps (aP.bP dg fun b d=>by have:=d.1;simp;omega)) (ae.2.keeps (aP.bP dg fun b d=>by have:=d.1;simp;omega)));clear dg h4 gA;go_wp2_with fail;refine HL.mono ?_;rintro x K ⟨n,⟨l,g,Bo,u5,v5,rfl,⟨lo,ln,lc,rfl,Ao⟩,h5⟩|⟨c5,q5,Bo,rfl,g,v5,h5⟩⟩
     ·have ai:ah (ag.qd e E (t::r)=(ag.aR e [41] g).bind fun _ g=>.ok (Tr.mk 5 t.2.1 0 0 (ba []) l [a3]) g):=(by show _=_;rw[zI.out,Bo];rfl);have EX:=n.size;have NN:=(n.block c.heap.size (by omega) (by simp;omega)).trans Bg;have aG:=am ((n.block _ (by omega) (by simp;omega)).trans ay);have gQ:=am (cU lH n);have be:=J NN;obtain⟨⟨aH,aI,aJ,aK,aM,aT,aW⟩,aX,aZ,a0,a1,a5,a7,a8⟩:=fa NN;obtain⟨S,T⟩:=nm (K.setCell (Y c.heap.size 5 U) (O lo ln lc));have By:K.grownBy S (Z c.heap.size):=(by rw[T];exact eR (jh _ _) rfl _);have V:aq c.heap.size K S:=(by rw[T];exact(aF c.heap.size K).setCell (p:=(Y c.heap.size 5 U)) (aD _) _);have bf:=V.size;have a9:ah (S.heap[c.heap.size]? =Z (M #[A I 5,A I (t.2.1:Int),A I 0,A I 0,H ⟨#[]⟩,O lo ln lc,O (Z (Y f.heap.size 0 U)) 1 1] 48)):=(by show _=_;rw[T];exact(aaD NN).2);have Bn:=am ((V.block _ (by omega)).trans aG);have k5:aP (fun b=>w.heap.size+1<=b/\b≠c.heap.size) w4 K:=aP.bP n fun b d=>(by have:=d.1;simp;omega);have kc:aP (fun b=>w.heap.size+1<=b/\b≠c.heap.size) K S:=aP.bP By fun b d=>(by have:=d.2;simp;exact this);have bb:ah (aS S (fun b=>w.heap.size+1<=b) (.mk 5 t.2.1 0 0 (ba []) l [a3]) (#[A I 5,A I (t.2.1:Int),A I 0,A I 0,H ⟨#[]⟩,O lo ln lc,O (Z (Y f.heap.size 0 U)) 1 1]:Av).toList):=by
       have m1:=((af.1.keeps k5).keeps kc).mono (S':=fun b=>w.heap.size+1<=b) fun b d _=>d.1;have m2:=((af.2.keeps k5).keeps kc).mono (S':=fun b=>w.heap.size+1<=b) fun b d _=>d.1;have m3:dw _ (fun b=>w.heap.size+1<=b) _ _:=(Ao.keeps (aP.bP By fun b d=>by simp;omega)).mono fun b d _=>(by omega);refine .mk (by rw[vR];simp[maxLen]) m3 m2 rfl (fun i hi cY=> ?_)
       match i,hi with
       | 0,_=>exact m1
      have Hc:=am (h5.keeps V (by omega));have ao:=am (((Fr.bP gQ (aD _)).trans (Fr.bm (V.mono (by omega)))).grown);clear n h5 Bo Ao NN By V k5 kc HL;go_wp2_with fail;rw[<-T];clear T;refine(iI _ (by decide) Hc).mono ?_;rintro x w6 ⟨o,⟨a6,r6,xu,u6,v6,rfl,rfl,h6⟩|⟨c6,Xm,xu,rfl,r6,v6,h6⟩⟩
      ·have HR:ah (ag.qd e E (t::r)=.ok (Tr.mk 5 t.2.1 0 0 (ba []) l [a3]) r6):=(by show _=_;rw[ai.out,show ag.aR e [41] g=.ok a6 r6 from xu];rfl);have kF:=o.size;have J9:=(o.block c.heap.size (by omega) (by simp;omega)).trans a9;have Oc:=(o.block w.heap.size (by omega) (by simp;omega)).trans Bn;have oo:=J Oc;unfold ZE at Oc;obtain⟨⟨q0,q1,q2,q3,q4,q5,q6⟩,p0,p1,p2,p3,p4,p5,p6⟩:=fa Oc;obtain⟨⟨o0,o1,o2,o3,o4,o5,o6⟩,_⟩:=fa J9;have HF:=Dk (cU ao o) h6 dz (bb.keeps (aP.bP o fun b d=>by simp;omega));have kw:=am HF;clear o h6 xu J9 Oc HF i0 i1 i2 i3 i4 i5 i6 j0 j1 j2 j3 j4 j5 j6 aH aI aJ aK aM aT aW aX aZ a0 a1 a5 a7 a8;go_wp2;refine bodyPost_ret (v:=.agg #[A I 5,A I (t.2.1:Int),A I 0,A I 0,H ⟨#[]⟩,O lo ln lc,O (Z (Y f.heap.size 0 U)) 1 1]) (by simp[results,results198,go_sem,q0,q1,q2,q3,q4,q5,q6]) rfl ?_;obtain⟨f1,f2,f3⟩:=kw.out;exact⟨f1,.inl ⟨_,_,HR.out,_,_,rfl,⟨_,_,_,_,_,_,_,_,_,_,_,rfl,f3⟩,f2⟩⟩
      ·exact⟨rfl,cU ao o,.inr ⟨c6,Xm,by rw[ai.out,show ag.aR e [41] g=.no c6 Xm from xu];rfl,rfl,_,_,h6⟩⟩
     ·exact⟨rfl,cU lH n,.inr ⟨c5,q5,by rw[zI.out,Bo];rfl,rfl,_,_,h5⟩⟩
    ·exact⟨rfl,cU zF dg,.inr ⟨c4,q4,by rw[pX.out,show ag.aR e [116,111] j=.no c4 q4 from gA];rfl,rfl,_,_,h4⟩⟩
   ·exact⟨rfl,cU dX F,.inr ⟨c3,q3,by rw[rx.out,eL];rfl,rfl,_,_,h3⟩⟩
  ·exact⟨rfl,cU Ms B,.inr ⟨c2,q2,by rw[fM.out,show ag.aR e [40] r=.no c2 q2 from fi];rfl,rfl,_,_,h2⟩⟩
 ·rw[ad.out] at Q;cases Q
theorem agw:IH rb e bl 12 (ag.wX e 0):=by
 intro w ts v h;have g:=h.lt;obtain⟨i,a⟩:=nm (w.alloc (M ZE 48));have b:=eS a;have c:=am (h.keeps b h.lt);have f:=am b;unfold ZE at a;clear h b
 go_enter_defers func160,ntmps160
 go_wp2_with fail;rw[<-a];clear a;refine(afV c.out).mono ?_;rintro x j ⟨rfl,d⟩;refine⟨mH (dN _ f.out) d,.inr ⟨_,_,rfl,rfl,_,_,c.keeps d c.lt⟩⟩
def GY (bx:Nat):Deferred:={target:=.fn (.func 177) #[aB (Z (Y bx 0 U))],args:=#[]}
theorem Is {a:aA Tr}{b:au->Tr->aw->Prop}(g:w.grownBy wz (Z rb))(h:Rd wz rb e bl ((d+1:Nat):Int) r v)(i:wz.heap[bx]? =Z (M #[aB (Z (Y rb 3 U))] 167))(j:d<=12)(k:a=.no c q):
 Leaves prog f160 tm (dS w rb e bl d a b) [GY bx] (.panicking [{v:=rA c q,recovered:=ak}]) wz:=by
 refine leaves_cons (f:=177) (args:=#[aB (Z (Y bx 0 U))]) (by simp) (by simp[go_sem]) ?_;refine(Xl (.panicking [{v:=rA c q,recovered:=ak}]) h i j).mono ?_;rintro x m ek ⟨rfl,rfl,rfl,l⟩;exact⟨eR g rfl _,.inr ⟨c,q,k,rfl,_,_,l⟩⟩
theorem abA {c:aA Tr}{t:Tr}(i:w.grownBy wz (Z rb))(E:rb<w.heap.size)(h:Rd wz rb e bl ((d+1:Nat):Int) r v)(g:wz.heap[bx]? =Z (M #[aB (Z (Y rb 3 U))] 167))(j:d<=12)(k:c=.ok t r)
 (l:tm[2]? =Z (aB (Z (Y w.heap.size 0 U)))) (hn:wz.heap[w.heap.size]? =Z (M #[A I z0,A I z1,A I z2,A I G,H L,O N C d5,O z6 m6 d6] 48)) (m:aS wz (fun b=>w.heap.size<=b) t [A I z0,A I z1,A I z2,A I G,H L,O N C d5,O z6 m6 d6]):
 Leaves prog f160 tm (dS w rb e bl d c (VE w.heap.size)) [GY bx] .returning wz:=by
 refine leaves_cons (f:=177) (args:=#[aB (Z (Y bx 0 U))]) (by simp) (by simp[go_sem]) ?_;refine(Xl .returning h g j).mono ?_;rintro x F ek ⟨rfl,rfl,a,n⟩;have o:ek.heap[w.heap.size]? =Z (M #[A I z0,A I z1,A I z2,A I G,H L,O N C d5,O z6 m6 d6] 48):=by
  rw[a,dL _ _ _ _ (by show w.heap.size≠rb;omega)];exact hn
 obtain⟨⟨p,q,s,u,y,z,B⟩,_⟩:=fa o;refine⟨.agg #[A I z0,A I z1,A I z2,A I G,H L,O N C d5,O z6 m6 d6],by simp[results,results160,go_sem,l,p,q,s,u,y,z,B],by rw[a];exact eR i rfl _,.inl ⟨t,r,k,_,_,rfl,⟨_,_,_,_,_,_,_,_,_,_,_,rfl,?_⟩,n⟩⟩;exact m.keeps (by rw[a];exact aP.bP (eR (jh _ _) rfl _) fun b g=>by simp;omega)
theorem abh {e:TypeId}(h:wz.heap[n]? =Z (M #[a0,a1,a2,a3,a4,a5,a6] e)):
 (((((((wz.setCell (Y n 0 U) y0).setCell (Y n 1 U) y1).setCell (Y n 2 U) y2).setCell (Y n 3 U) y3).setCell (Y n 4 U) y4).setCell (Y n 5 U) y5).setCell (Y n 6 U) y6).heap[n]? =Z (M #[y0,y1,y2,y3,y4,y5,y6] e)/\∀b,b≠n->(((((((wz.setCell (Y n 0 U) y0).setCell (Y n 1 U) y1).setCell (Y n 2 U) y2).setCell (Y n 3 U) y3).setCell (Y n 4 U) y4).setCell (Y n 5 U) y5).setCell (Y n 6 U) y6).heap[b]? =wz.heap[b]? :=by
 refine⟨by simp[bw,dM,h],fun b a=> ?_⟩;iterate 7 rw[dL _ _ _ _ a]
theorem Iu {a:aA Tr}{t:Tr}(f:w.grownBy wz (Z rb))(c:rb<w.heap.size)(h:Rd wz rb e bl ((d+1:Nat):Int) r v)(g:wz.heap[bx]? =Z (M #[aB (Z (Y rb 3 U))] 167))(i:bx≠w.heap.size)(j:d<=12)(k:a=.ok t r)
 (l:tm[2]? =Z (aB (Z (Y w.heap.size 0 U)))) (hn:wz.heap[w.heap.size]? =Z (M ZE 48)) (m:aS wz (fun b=>w.heap.size+1<=b) t [A I z0,A I z1,A I z2,A I G,H L,O N C d5,O z6 m6 d6]):
 Leaves prog f160 tm (dS w rb e bl d a (VE w.heap.size)) [GY bx] .returning (((((((wz.setCell (Y w.heap.size 0 U) (A I z0)).setCell (Y w.heap.size 1 U) (A I z1)).setCell (Y w.heap.size 2 U) (A I z2)).setCell (Y w.heap.size 3 U) (A I G)).setCell (Y w.heap.size 4 U) (H L)).setCell (Y w.heap.size 5 U) (O N C d5)).setCell (Y w.heap.size 6 U) (O z6 m6 d6)):=by
 obtain⟨f1,f2,f3⟩:=Dk f h c m;unfold ZE at hn;obtain⟨n,o⟩:=abh (y0:=A I z0) (y1:=A I z1) (y2:=A I z2) (y3:=A I G) (y4:=H L) (y5:=O N C d5) (y6:=O z6 m6 d6) hn;exact abA f1 c f2 ((o bx i).trans g) j k l n f3
theorem anP {j:aA Tr}{a:Tr}(p:w.grownBy w4 (Z rb))(l:rb<w.heap.size)(h:Rd w4 rb e bl ((d+1:Nat):Int) r4 v4)(g:w4.heap[bx]? =Z (M #[aB (Z (Y rb 3 U))] 167))(q:bx≠w.heap.size)(r:d<=12)(s:j=.ok (ag.eK t [a]) r4)(u:t.2.2.length<=4000)
 (v:tm[2]? =Z (aB (Z (Y w.heap.size 0 U)))) (hn:w4.heap[w.heap.size]? =Z (M ZE 48)) (hx:aS w4 (fun b=>w.heap.size+1<=b) a (#[A I z0,A I z1,A I z2,A I G,H L,O N C d5,O z6 m6 d6]:Av).toList):
 Leaves prog f160 tm (dS w rb e bl d j (VE w.heap.size)) [GY bx] .returning ((((((((w4.setCell (Y w.heap.size 0 U) (A I 3)).setCell (Y w.heap.size 1 U) (A I (t.2.1:Int))).setCell (Y w.heap.size 2 U) (A I 0)).setCell (Y w.heap.size 3 U) (A I 0)).setCell (Y w.heap.size 4 U) (H (ba t.2.2))).setCell (Y w.heap.size 5 U) (O U 0 0)).setCell (Y w.heap.size 6 U) (O (Z (Y w4.heap.size 0 U)) 1 1)).alloc (M #[A I z0,A I z1,A I z2,A I G,H L,O N C d5,O z6 m6 d6] 48)):=by
 obtain⟨c,i⟩:∃c,c=(((((((w4.setCell (Y w.heap.size 0 U) (A I 3)).setCell (Y w.heap.size 1 U) (A I (t.2.1:Int))).setCell (Y w.heap.size 2 U) (A I 0)).setCell (Y w.heap.size 3 U) (A I 0)).setCell (Y w.heap.size 4 U) (H (ba t.2.2))).setCell (Y w.heap.size 5 U) (O U 0 0)).setCell (Y w.heap.size 6 U) (O (Z (Y w4.heap.size 0 U)) 1 1)):=⟨_,rfl⟩;have f:w4.grownBy c (Z w.heap.size):=(by rw[i];exact ET);have x:c.heap.size=w4.heap.size:=(by rw[i];simp[bw]);have B:=J hn;unfold ZE at hn;have y:c.heap[w.heap.size]? =Z (M #[A I 3,A I (t.2.1:Int),A I 0,A I 0,H (ba t.2.2),O U 0 0,O (Z (Y w4.heap.size 0 U)) 1 1] 48):=(by rw[i];exact(abh hn).1);rw[<-i];have m:aq w.heap.size w4 c:=⟨f.os,f.tape,f.output,f.size,fun k h=>f.block k (by omega) (by simp;omega)⟩;have n:Bl c (c.alloc (M #[A I z0,A I z1,A I z2,A I G,H L,O N C d5,O z6 m6 d6] 48)):=(aF _ _).alloc (aD _) _;have z:aS _ (fun b=>w.heap.size<=b) _ _:=(hx.keeps (aP.bP f fun b g=>by simp;omega)).mono fun b g _=>(by omega);have o:=ahH (t:=t) u z (by omega) 48;rw[x] at o;exact abA (mH (((Fr.bP p (aD _)).trans (Fr.bm m)).grown) n) l ((h.keeps m l).keeps n (by omega)) (cR ((f.block _ (J g) (by simp;exact q)).trans g)) r s v (cR y) o
def zv (tb e:Nat)(ts:List Tok)(v:aw)(bl al:Int)(P:List Tok->aA Tr):Prop:=∀(w:au) (k:Nat) (p:Int),Tx w tb e ts v k 0 p bl al->aC prog 150 #[aB (Z (Y tb 0 U))] w (zR w tb e ts v bl al (P (ts.drop k)) (VE w.heap.size) JE)
theorem adX {a:Int}(h:W.heap[V]? =Z (M (pw v k e c p bl al) 102)):(W.setCell (Y V 6 U) (A I a)).heap[V]? =Z (M (pw v k e c p bl a) 102):=by
 simp only[bw,dM,h];simp[pw]
theorem Tx.deep (h:Tx w V e ts v k c p bl al)(a:Int):w.grownBy (w.setCell (Y V 6 U) (A I a)) (Z V)/\Tx (w.setCell (Y V 6 U) (A I a)) V e ts v k c p bl a:=by
 have b:w.grownBy (w.setCell (Y V 6 U) (A I a)) (Z V):=eR (jh _ _) rfl _;exact⟨b,h.kept b (adX h.bE) h.le h.kO⟩
structure lF (w wt:au)(tb K:Nat)(t:Tok):Prop where
 gr:w.grownBy wt (Z tb)
 box:wt.heap[w.heap.size]? =Z (M #[aB (Z (Y tb 0 U))] 43)
 res:wt.heap[w.heap.size+1]? =Z (M ZE 48)
 tok:wt.heap[K]? =Z (M #[A I t.1,A I (t.2.1:Int),H (ba t.2.2)] 81)
 lo:tb<w.heap.size
 hK:w.heap.size+1<K
theorem lF.later (h:lF w wt V K t)(a:wt.grownBy w' (Z V)):lF w w' V K t:=by
 have b:=J h.box;have c:=J h.res;have d:=J h.tok;have e:=h.lo;have f:=h.hK;exact⟨h.gr.trans a,(a.block _ b (by simp;omega)).trans h.box,(a.block _ c (by simp;omega)).trans h.res,(a.block _ d (by simp;omega)).trans h.tok,e,f⟩
theorem lF.below (h:lF w wt V K t)(a:Bl wt w'):lF w w' V K t:=h.later ⟨a.os,a.tape,a.output,a.size,fun j b _=>a.block j b⟩
theorem lF.cells (h:lF w wt V K t):w.heap.size+1<wt.heap.size/\K<wt.heap.size/\wt.cell? (Y w.heap.size 0 U)=Z (aB (Z (Y V 0 U)))/\wt.cell? (Y K 0 U)=Z (A I t.1)/\wt.cell? (Y K 1 U)=Z (A I (t.2.1:Int))/\wt.cell? (Y K 2 U)=Z (H (ba t.2.2)):=by
 refine⟨J h.res,J h.tok,?_,?_,?_,?_⟩
 ·simp[aN,h.box]
 all_goals simp[aN,h.tok]
theorem ahS (u:FrameMode)(g:d<=12)(h:Tx w V e ts v k c p bl ((d+1:Nat):Int))(a:w.heap[n]? =Z (M #[aB (Z (Y V 0 U))] 43)):
 CallsD prog 193 #[aB (Z (Y n 0 U))] u w fun x b w'=>b=u/\(x=aE (.tuple #[])/\w'=w.setCell (Y V 6 U) (A I (d:Int))/\Tx w' V e ts v k c p bl d):=by
 obtain⟨i,j,l,m,o,q,r⟩:=h.cells;have z6:=h.free 6;have s:=h.lt;have k0:w.cell? (Y n 0 U)=Z (aB (Z (Y V 0 U))):=(by simp[aN,a]);have f:ah (Tx (w.setCell (Y V 6 U) (A I (d:Int))) V e ts v k c p bl d):=(h.deep _).2;clear h
 go_enter_d func193,ntmps193
 go_wp2
 go_end0
 exact⟨rfl,rfl,f.out⟩
def Rh (n:Nat):Deferred:={target:=.fn (.func 193) #[aB (Z (Y n 0 U))],args:=#[]}
def LO (wz:au)(B tb e:Nat)(ts:List Tok)(v:aw)(k:Nat)(c p bl al:Int)(res:aA Tr)(zs:Lv):Prop:=
 Tx wz tb e ts v k c p bl al/\((c=0/\∃t,res=.ok t (ts.drop k)/\aS wz (fun b=>B<=b) t zs)\/(c≠0/\k=ts.length/\∃q:Nat,p=(q:Int)/\res=.no c q))
theorem abB {h:aA Tr}(l:d<=12)(m:w.grownBy wz (Z V))(K:V<w.heap.size)
 (i:wz.heap[w.heap.size]? =Z (M #[aB (Z (Y V 0 U))] 43))
 (hn:wz.heap[w.heap.size+1]? =Z (M #[A I z0,A I z1,A I z2,A I G,H L,O N C d5,O z6 m6 d6] 48))
 (hf:LO wz w.heap.size V e ts v k c p bl ((d+1:Nat):Int) h [A I z0,A I z1,A I z2,A I G,H L,O N C d5,O z6 m6 d6])
 (n:tm[2]? =Z (aB (Z (Y (w.heap.size+1) 0 U)))):
 Leaves prog f150 tm (zR w V e ts v bl d h (VE w.heap.size) JE) [Rh w.heap.size] .returning wz:=by
 refine leaves_cons (f:=193) (args:=#[aB (Z (Y w.heap.size 0 U))]) (by simp) (by simp[go_sem]) ?_;refine(ahS .returning l hf.1 i).mono ?_;rintro x P ek ⟨rfl,rfl,b,j⟩;have o:ek.heap[w.heap.size+1]? =Z (M #[A I z0,A I z1,A I z2,A I G,H L,O N C d5,O z6 m6 d6] 48):=by
  rw[b,dL _ _ _ _ (by show w.heap.size+1≠V;omega)];exact hn
 obtain⟨⟨r,s,t,u,y,z,B⟩,_⟩:=fa o;refine⟨.agg #[A I z0,A I z1,A I z2,A I G,H L,O N C d5,O z6 m6 d6],by simp[results,results150,go_sem,n,r,s,t,u,y,z,B],by rw[b];exact eR m rfl _,?_⟩;rcases hf.2 with⟨rfl,a,g,E⟩|⟨F,rfl,q,rfl,g⟩
 ·refine .inl ⟨a,k,p,_,g,rfl,⟨_,_,_,_,_,_,_,_,_,_,_,rfl,?_⟩,j⟩;exact E.keeps (by rw[b];exact aP.bP (eR (jh _ _) rfl _) fun Q i=>by simp;omega)
 ·exact .inr ⟨c,q,_,g,rfl,⟨_,_,_,_,_,_,_,_,_,_,_,rfl⟩,F,j⟩
theorem It {c0:Int}{g:aA Tr}(l:d<=12)(m:Tx w V e ts v k0 c0 p0 Aw Ay)(b:lF w wz V K t)
 (hf:LO wz (w.heap.size+1+1) V e ts v k c p bl ((d+1:Nat):Int) g [A I z0,A I z1,A I z2,A I G,H L,O N C d5,O z6 m6 d6])
 (n:tm[2]? =Z (aB (Z (Y (w.heap.size+1) 0 U)))):
 Leaves prog f150 tm (zR w V e ts v bl d g (VE w.heap.size) JE) [Rh w.heap.size] .returning (tI wz (w.heap.size+1) (A I z0) (A I z1) (A I z2) (A I G) (H L) (O N C d5) (O z6 m6 d6)):=by
 have o:=b.lo;have hn:=b.res;unfold ZE at hn;have i:wz.grownBy (tI wz (w.heap.size+1) (A I z0) (A I z1) (A I z2) (A I G) (H L) (O N C d5) (O z6 m6 d6)) (Z (w.heap.size+1)):=ET;have z:=i.block;have f:aq (w.heap.size+1) wz (tI wz (w.heap.size+1) (A I z0) (A I z1) (A I z2) (A I G) (H L) (O N C d5) (O z6 m6 d6)):=LG (aF _ _) (aD _) _ _ _ _ _ _ _;have B:=J hn;refine abB l ⟨f.os.trans b.gr.os,f.tape.trans b.gr.tape,f.output.trans b.gr.output,Nat.le_trans b.gr.size f.size,fun j q r=>(f.block j (by omega)).trans (b.gr.block j q r)⟩ o ((f.block _ (by omega)).trans b.box) (Ls hn _ _ _ _ _ _ _) ⟨m.past b.gr hf.1 (f.mono (by omega)),?_⟩ n
 ·rcases hf.2 with⟨rfl,a,s,u⟩| h
  ·exact .inl ⟨rfl,a,s,(u.keeps (aP.bP i fun x y=>by simp;omega)).mono fun x y _=>by omega⟩
  ·exact .inr h
def aY {α:Type}(R:aA α):Prop:=∃a r,R=.ok a r
theorem aY.no {b:Type}{R:aA b}(h:aY R)(d:R=.no c q):False:=by
 obtain⟨a,r,h⟩:=h;rw[d] at h;cases h
def JF:Tr:=.mk 0 0 0 0 (ba []) [] []
def MB {α:Type}(w:au)(tb e:Nat)(ts:List Tok)(v:aw)(bl al:Int)(R:aA α)(F:Tr->List Tok->aA α)(x:Ending)(w':au):Prop:=
 ∃(z0 z1 z2 z3:Int) (z4:Bt) (z5:Oa) (m5 d5:Nat) (z6:Oa) (m6 d6:Nat),x=aE (.agg #[A I z0,A I z1,A I z2,A I z3,H z4,O z5 m5 d5,O z6 m6 d6])/\w.grownBy w' (Z tb)/\∃a k c p,St w' tb e ts v bl al R (F a) k c p/\(aY R->aS w' (fun b=>w.heap.size<=b) a [A I z0,A I z1,A I z2,A I z3,H z4,O z5 m5 d5,O z6 m6 d6])
theorem abj {g:Type}{i:aA Tr}{R:aA g}{j:Tr->List Tok->aA g}(l:R=i.bind j)(h:zR w V e ts v bl al i (VE w.heap.size) JE x w'):MB w V e ts v bl al R j x w':=by
 obtain⟨n,z0,z1,z2,G,L,N,C,d5,z6,m6,d6,hx,o⟩:=Ir h;refine⟨z0,z1,z2,G,L,N,C,d5,z6,m6,d6,hx,n,?_⟩;rcases o with⟨a,k,p,b,d,f⟩|⟨c,q,b,d,f⟩
 ·exact⟨a,k,0,p,⟨f,.inl ⟨rfl,by rw[l,b];rfl⟩⟩,fun _=>d⟩
 ·have m:R=.no c q:=(by rw[l,b];rfl);exact⟨JF,ts.length,c,q,⟨f,.inr ⟨d,rfl,q,rfl,m⟩⟩,fun h=>(h.no m).elim⟩
theorem abk {a:Type}{R:aA a}{f:Tr->List Tok->aA a}(g:c≠0)(b:R=.no c q)(h:Tx w V e ts v ts.length c (q:Int) bl al)(d:Bl w w'):MB w V e ts v bl al R f (aE Ac) w':=
 ⟨0,0,0,0,⟨#[]⟩,U,0,0,U,0,0,rfl,mH (jh _ _) d,JF,ts.length,c,q,⟨h.later d,.inr ⟨g,rfl,q,rfl,b⟩⟩,fun h=>(h.no b).elim⟩
theorem BS {d:Type}(i:zO V e ts v bl al E){R:aA d}{f:Tr->List Tok->aA d}(h:St w V e ts v bl al R (fun r=>(E r).bind f) k c p):
 aC prog 105 #[aB (Z (Y V 0 U))] w (MB w V e ts v bl al R f):=by
 obtain⟨a,⟨rfl,b⟩|⟨g,rfl,q,rfl,b⟩⟩:=h
 ·refine(i w k p a).mono ?_;exact fun x w' h=>abj b h
 ·refine(anj g a).mono ?_;rintro x w' ⟨rfl,j⟩;exact abk g b a j
theorem XZ {d:Type}(i:zv V e ts v bl al P){R:aA d}{f:Tr->List Tok->aA d}(h:St w V e ts v bl al R (fun r=>(P r).bind f) k c p):
 aC prog 150 #[aB (Z (Y V 0 U))] w (MB w V e ts v bl al R f):=by
 obtain⟨a,⟨rfl,b⟩|⟨g,rfl,q,rfl,b⟩⟩:=h
 ·refine(i w k p a).mono ?_;exact fun x w' h=>abj b h
 ·refine(X0 g a).mono ?_;rintro x w' ⟨rfl,j⟩;exact abk g b a j
def LbS {α:Type}(w:au)(tb e:Nat)(ts:List Tok)(v:aw)(bl al:Int)(R:aA α)(F:List Po->List Tok->aA α)(x:Ending)(w':au):Prop:=
 ∃(lo:Oa) (ln lc:Nat),x=aE (O lo ln lc)/\w.grownBy w' (Z tb)/\∃l k c p,St w' tb e ts v bl al R (F l) k c p/\(aY R->dw w' (fun b=>w.heap.size<=b) (O lo ln lc) l)
theorem ES {j:Type}(t:ag.Good ts)(y:qx ts){R:aA j}{f:List Po->List Tok->aA j}(h:St w V e ts v bl al R (fun r=>(ag.fX e r).bind f) k c p):
 aC prog 54 #[aB (Z (Y V 0 U))] w (LbS w V e ts v bl al R f):=by
 obtain⟨m,⟨rfl,a⟩|⟨n,rfl,q,rfl,a⟩⟩:=h
 ·refine(ako t y m).mono ?_;rintro x w' ⟨o,⟨l,k,p,u,b,d,g,i⟩|⟨c,q,u,b,d,⟨z,B,C,rfl⟩,g,i⟩⟩
  ·obtain⟨E,F,rfl⟩:=g.slice;exact⟨_,_,_,d,o,l,k,0,p,⟨i,.inl ⟨rfl,by rw[a];show(ag.fX e _).bind f=_;rw[b];rfl⟩⟩,fun _=>g.label⟩
  ·have s:R=.no c q:=(by rw[a];show(ag.fX e _).bind f=_;rw[b];rfl);exact⟨z,B,C,d,o,[],ts.length,c,q,⟨i,.inr ⟨g,rfl,q,rfl,s⟩⟩,fun h=>(h.no s).elim⟩
 ·refine(akn n m).mono ?_;rintro x w' ⟨rfl,b,d⟩;exact⟨_,_,_,rfl,b,[],ts.length,c,q,⟨d,.inr ⟨n,rfl,q,rfl,a⟩⟩,fun h=>(h.no a).elim⟩
theorem ahK {a:Tr}{f:Lv}(h:St w V e ts v bl al R (fun r=>.ok a r) k c p)(i:aY R->aS w (fun b=>B<=b) a f):LO w B V e ts v k c p bl al R f:=by
 obtain⟨g,⟨rfl,d⟩|⟨j,rfl,q,rfl,d⟩⟩:=h
 ·exact⟨g,.inl ⟨rfl,a,d,i ⟨_,_,d⟩⟩⟩
 ·exact⟨g,.inr ⟨j,rfl,q,rfl,d⟩⟩
theorem Tz {c0:Int}{a:Tr}{y0 y1 y2 y3:Int}{y4:Bt}{y5:Oa}{f5:Nat}{y6:Oa}{f6:Nat}(E:d<=12)(F:Tx w V e ts v k0 c0 p0 Aw Ay)(g:lF w wz V K t)
 (n:St wz V e ts v bl ((d+1:Nat):Int) R (fun r=>.ok (.mk z0 z1 z2 G L l [a]) r) k c p) (P:L.size<=maxLen) (Q:aY R->dw wz (fun b=>w.heap.size+1+1<=b) (O N C d5) l) (S:aY R->aS wz (fun b=>w.heap.size+1+1<=b) a [A I y0,A I y1,A I y2,A I y3,H y4,O y5 n5 f5,O y6 n6 f6])
 (T:tm[2]? =Z (aB (Z (Y (w.heap.size+1) 0 U)))):
 Leaves prog f150 tm (zR w V e ts v bl d R (VE w.heap.size) JE) [Rh w.heap.size] .returning ((tI wz (w.heap.size+1) (A I z0) (A I z1) (A I z2) (A I G) (H L) (O N C d5) (O (Z (Y wz.heap.size 0 U)) 1 1)).alloc (M #[A I y0,A I y1,A I y2,A I y3,H y4,O y5 n5 f5,O y6 n6 f6] 48)):=by
 have W:=g.lo;have hn:=g.res;unfold ZE at hn;have aK:=J hn;obtain⟨f,h⟩:∃f,f=tI wz (w.heap.size+1) (A I z0) (A I z1) (A I z2) (A I G) (H L) (O N C d5) (O (Z (Y wz.heap.size 0 U)) 1 1):=⟨_,rfl⟩;have X:wz.grownBy f (Z (w.heap.size+1)):=(by rw[h];exact ET);have hB:aq (w.heap.size+1) wz f:=(by rw[h];exact LG (aF _ _) (aD _) _ _ _ _ _ _ _);have ct:f.heap.size=wz.heap.size:=(by rw[h];simp[tI,bw]);have jE:f.heap[w.heap.size+1]? =Z (M #[A I z0,A I z1,A I z2,A I G,H L,O N C d5,O (Z (Y wz.heap.size 0 U)) 1 1] 48):=(by rw[h];exact Ls hn _ _ _ _ _ _ _);rw[<-h];have o:Bl f (f.alloc (M #[A I y0,A I y1,A I y2,A I y3,H y4,O y5 n5 f5,O y6 n6 f6] 48)):=(aF _ _).alloc (aD _) _;have m:aq _ _ _:=hB.trans (o.mono (by omega));refine abB E (mh g.gr (m.mono (by omega))) W ((m.block _ (by omega)).trans g.box) (cR jE) ⟨F.past g.gr n.1 (m.mono (by omega)),?_⟩ T;obtain⟨h1,⟨rfl,j⟩|⟨hc,rfl,q,rfl,j⟩⟩:=n
 ·have s:aY R:=⟨_,_,j⟩;refine .inl ⟨rfl,_,j,?_⟩;have u:aP (fun b=>w.heap.size+1+1<=b) wz f:=aP.bP X fun b x=>(by simp;omega);have y:aP (fun b=>w.heap.size<=b) _ _:=aP.bm o;have z:aS _ (fun b=>w.heap.size<=b) _ _:=((S s).keeps u).mono fun b x _=>(by omega);have tl:dw _ (fun b=>w.heap.size<=b) _ _:=((Q s).keeps u).mono fun b x _=>(by omega);have B:=QX z (by omega) 48;rw[ct] at B;refine .mk P (tl.keeps y) B rfl (fun i g cY=> ?_)
  match i,g with
  | 0,_=>exact z.keeps y
 ·exact .inr ⟨hc,rfl,q,rfl,j⟩
def ArS (wO:au)(tb e:Nat)(ts:List Tok)(v:aw)(bl al:Int)(R:aA Tr)(q:Int)(o:Bt)(B:Nat)(x:Ending)(w':au):Prop:=
 ∃(lo:Oa) (ln lc:Nat),x=aE (O lo ln lc)/\wO.grownBy w' (Z tb)/\∃k c p,LO w' B tb e ts v k c p bl al R [A I 4,A I q,A I 0,A I 0,H o,O U 0 0,O lo ln lc]
theorem aqa {r:aA (List Tr)}{q:Int}(s:R=r.bind fun a y=>.ok (.mk 4 q 0 0 o [] a) y)(z:o.size<=maxLen)(S:B<=wO.heap.size)(b:Bl wO w')(h:zR w' V e ts v bl al r (fun ek l u=>bO od ek w'.heap.size 48 7 u l) JL x ek):ArS wO V e ts v bl al R q o B x ek:=by
 obtain⟨t,⟨l,k,p,u,f,g,d,m⟩|⟨c,w,u,f,g,⟨C,E,F,rfl⟩,d,m⟩⟩:=h
 ·obtain⟨T,W,rfl⟩:=d.slice;obtain⟨X,G,K,L⟩:=d.trees.ex;have hs:=b.size;refine⟨_,_,_,g,World.grownBy.trans ⟨b.os,b.tape,b.output,b.size,fun j n _=>b.block j n⟩ t,k,0,p,m,.inl ⟨rfl,_,by rw[s,f];rfl,?_⟩⟩;exact .mk z (kE _ _) (G.mono fun N b _=>by omega) K (fun i P Q=>aS.mono (L i P Q) fun N b _=>by omega)
 ·exact⟨C,E,F,g,World.grownBy.trans ⟨b.os,b.tape,b.output,b.size,fun j n _=>b.block j n⟩ t,ts.length,c,w,m,.inr ⟨d,rfl,w,rfl,by rw[s,f];rfl⟩⟩
def Ul (wO:au)(tb e:Nat)(ts:List Tok)(v:aw)(bl al:Int)(R:aA Tr)(F:Tr->List Tok->aA Tr)(B:Nat)(x:Ending)(w':au):Prop:=
 ∃(z0 z1 z2 z3:Int) (z4:Bt) (z5:Oa) (m5 d5:Nat) (z6:Oa) (m6 d6:Nat),x=aE (.agg #[A I z0,A I z1,A I z2,A I z3,H z4,O z5 m5 d5,O z6 m6 d6])/\wO.grownBy w' (Z tb)/\∃a k c p,St w' tb e ts v bl al R (F a) k c p/\(aY R->aS w' (fun b=>B<=b) a [A I z0,A I z1,A I z2,A I z3,H z4,O z5 m5 d5,O z6 m6 d6])
theorem XW {d:Tr->List Tok->aA Tr}(m:B<=wO.heap.size)(b:Bl wO w')(h:MB w' V e ts v bl al R d x ek):Ul wO V e ts v bl al R d B x ek:=by
 obtain⟨z0,z1,z2,G,L,N,C,d5,z6,m6,d6,hx,f,a,k,c,p,g,i⟩:=h;have n:=b.size;exact⟨z0,z1,z2,G,L,N,C,d5,z6,m6,d6,hx,World.grownBy.trans ⟨b.os,b.tape,b.output,b.size,fun j l _=>b.block j l⟩ f,a,k,c,p,g,fun h=>(i h).mono fun o b _=>by omega⟩
def CL (Q:Exit->Act->au->Prop):Exit->Act->au->Prop
 | .panic _,_,_=>False
 | x,a,w=>Q x a w
theorem Ro {Q:Exit->Act->au->Prop}:∀x a w,CL Q x a w->Q x a w:=by
 intro x a w h;cases x<;>first | exact h | exact h.elim
theorem Rp {Q:Exit->Act->au->Prop}{a:Act}(h:Q .normal a w):CL Q .normal a w:=h
namespace ag
inductive aV where
 | mk (k p:Int) (s o:Bt) (d:Bool) (l:List Po) (e:Tr) (a b:List aV)
structure cV where
 name:Bt
 type:Int
 eo:List Po
structure ii where
 at_:Int
 name:Bt
 ul:Bool
 type:Int
 eo:List Po
structure dV where
 at_:Int
 name:Bt
 params:List cV
 result:cV
 pQ:List Po
 for_:List Bt
 body:List aV
structure bL where
 dl:List Bt
 cZ:List (Bt×Bt)
 bz:List ii
 procs:List dV
def qR:Tr:=.mk 0 0 0 0 (ba []) [] []
def CL:cV:=⟨ba [],0,[]⟩
def nl:Lu:=[99,104,105,101,102]
def oG:Lu:=[97,99,116,115]
def mN:Lu:=[105,110]
def sA:Lu:=[111,117,116]
def yf:Lu:=[112,114,111,99]
def MP:Lu:=[105,110,116]
def zX:Lu:=[98,111,111,108]
def Jm:Lu:=[98,101,103,105,110]
def Jl:Lu:=[102,111,114]
def AX:Lu:=[105,102]
def Cs:Lu:=[119,104,105,108,101]
def Cx:Lu:=[101,108,115,101]
def Ct:Lu:=[118,97,114]
def Eo:Lu:=[115,101,110,100]
def En:Lu:=[116,97,107,101]
def MQ:Lu:=[100,111]
def MO:Lu:=[114,101,116,117,114,110]
def kn (e:Nat)(ts:List Tok):aA Int:=if aO MP ts=ap then .ok 1 ts.tail else(aR e zX ts).bind fun _ r=>.ok 2 r
def nO (e:Nat)(ts:List Tok):aA (Int×List Po):=(aR e [58] ts).bind fun _ r1=>(kn e r1).bind fun t r2=>(fX e r2).bind fun l r3=>.ok (t,l) r3
def gY (e:Nat)(ts:List Tok):aA cV:=(bR e ts).bind fun s r1=>(nO e r1).bind fun k r2=>.ok ⟨s,k.1,k.2⟩ r2
def vO (e:Nat)(ts:List Tok):aA Bt:=(aR e nl ts).bind fun _ r1=>(bR e r1).bind fun s r2=>(aR e [59] r2).bind fun _ r3=>.ok s r3
def vS (e:Nat)(ts:List Tok):aA (Bt×Bt):=(aR e oG ts).bind fun _ r1=>(bR e r1).bind fun s r2=>(bR e r2).bind fun t r3=>(aR e [59] r3).bind fun _ r4=>.ok (s,t) r4
def td (e:Nat)(ts:List Tok):aA ii:=(gY e ts.tail).bind fun q r1=>(aR e [59] r1).bind fun _ r2=>.ok ⟨(nx ts).2.1,q.name,(nx ts).2.2==mN,q.type,q.eo⟩ r2
def io (e:Nat)(S:List Tok->aA aV):Nat->List aV->List Tok->aA (List aV)
 | 0,acc,ts=>if aO [125] ts=ap then .ok acc ts.tail else .no 2 (bI e ts)
 | m+1,acc,ts=>if aO [125] ts=ap then .ok acc ts.tail else(S ts).bind fun s r=>io e S m (acc++[s]) r
def Dq (e p:Nat)(s:Bt)(ts:List Tok):aA Tr:=(ei e [40] [44] [41] 4 (fp e 12) ts).bind fun a r=>.ok (.mk 4 p 0 0 s [] a) r
def mP (e:Nat)(s:aV)(ts:List Tok):aA aV:=(aR e [59] ts).bind fun _ r=>.ok s r
def NI (e:Nat)(B:List Tok->aA (List aV))(ts:List Tok):aA aV:=
 (fp e 12 ts.tail).bind fun x r1=>(B r1).bind fun a r2=>
  if aO Cx r2=ap then(B r2.tail).bind fun b r3=>.ok (.mk 3 (nx ts).2.1 (ba []) (ba []) ak [] x a b) r3 else .ok (.mk 3 (nx ts).2.1 (ba []) (ba []) ak [] x a []) r2
def MN (e:Nat)(B:List Tok->aA (List aV))(ts:List Tok):aA aV:=
 (fp e 12 ts.tail).bind fun x r1=>(B r1).bind fun a r2=>.ok (.mk 4 (nx ts).2.1 (ba []) (ba []) ak [] x a []) r2
def pS (e:Nat)(ts:List Tok):aA (Bool×List Po):=if aO [123] ts=ap then(fX e ts).bind fun l r=>.ok (ap,l) r else .ok (ak,[]) ts
def JR (e:Nat)(ts:List Tok):aA aV:=
 (bR e ts.tail).bind fun s r1=>(pS e r1).bind fun d r2=>(aR e [61] r2).bind fun _ r3=>(fp e 12 r3).bind fun x r4=>mP e (.mk 1 (nx ts).2.1 s (ba []) d.1 d.2 x [] []) r4
def QK (e:Nat)(ts:List Tok):aA aV:=(bR e ts.tail).bind fun s r1=>(fp e 12 r1).bind fun x r2=>mP e (.mk 5 (nx ts).2.1 s (ba []) ak [] x [] []) r2
def QA (e:Nat)(ts:List Tok):aA aV:=(bR e ts.tail).bind fun s r1=>(bR e r1).bind fun o r2=>mP e (.mk 6 (nx ts).2.1 s o ak [] qR [] []) r2
def TA (e:Nat)(ts:List Tok):aA aV:=(bR e ts.tail).bind fun s r1=>(Dq e (bI e ts.tail) s r1).bind fun x r2=>mP e (.mk 7 (nx ts).2.1 (ba []) (ba []) ak [] x [] []) r2
def QZ (e:Nat)(ts:List Tok):aA aV:=(fp e 12 ts.tail).bind fun x r1=>mP e (.mk 8 (nx ts).2.1 (ba []) (ba []) ak [] x [] []) r1
def QJ (e:Nat)(ts:List Tok):aA aV:=(bR e ts).bind fun s r1=>(aR e [61] r1).bind fun _ r2=>(fp e 12 r2).bind fun x r3=>mP e (.mk 2 (bI e ts) s (ba []) ak [] x [] []) r3
def fd (e:Nat)(B:List Tok->aA (List aV))(ts:List Tok):aA aV:=
 if(nx ts).2.2=AX then NI e B ts else if(nx ts).2.2=Cs then MN e B ts else if(nx ts).2.2=Ct then JR e ts
 else if(nx ts).2.2=Eo then QK e ts else if(nx ts).2.2=En then QA e ts else if(nx ts).2.2=MQ then TA e ts
 else if(nx ts).2.2=MO then QZ e ts else QJ e ts
def block (e:Nat):Nat->List Tok->aA (List aV)
 | 0,ts=>(aR e [123] ts).bind fun _ r=>.no 2 (bI e r)
 | k+1,ts=>(aR e [123] ts).bind fun _ r=>io e (fd e (block e k)) 20 [] r
def vn (e:Nat)(ts:List Tok):aA cV:=if aO [58] ts=ap then(nO e ts).bind fun k r=>.ok ⟨ba [],k.1,k.2⟩ r else .ok CL ts
def vQ (e:Nat)(ts:List Tok):aA (List Po):=if aO Jm ts=ap then fX e ts.tail else .ok [] ts
def vM (e:Nat)(ts:List Tok):aA (List Bt):=if aO Jl ts=ap then dT e [44] 6 (bR e) ts.tail else .ok [] ts
def vu (e:Nat)(ts:List Tok):aA dV:=
 (aR e yf ts).bind fun p r1=>(bR e r1).bind fun s r2=>(ei e [40] [44] [41] 4 (gY e) r2).bind fun q r3=>(vn e r3).bind fun t r4=>
  (vQ e r4).bind fun b r5=>(vM e r5).bind fun f r6=>(block e 12 r6).bind fun y r7=>.ok ⟨p,s,q,t,b,f,y⟩ r7
def fT {α:Type}(e m:Nat)(l:List α)(P:List Tok->aA α)(ts:List Tok):aA (List α):=if l.length=m then .no 2 (bI e ts) else(P ts).bind fun a r=>.ok (l++[a]) r
def js (e:Nat)(p:bL)(ts:List Tok):aA bL:=
 if(nx ts).2.2=nl then(fT e 6 p.dl (vO e) ts).bind fun l r=>.ok {p with dl:=l} r
 else if(nx ts).2.2=oG then(fT e 10 p.cZ (vS e) ts).bind fun l r=>.ok {p with cZ:=l} r
 else if(nx ts).2.2=mN\/(nx ts).2.2=sA then(fT e 6 p.bz (td e) ts).bind fun l r=>.ok {p with bz:=l} r
 else if(nx ts).2.2=yf then(fT e 6 p.procs (vu e) ts).bind fun l r=>.ok {p with procs:=l} r
 else .no 1 (bI e ts)
def jq (e:Nat):Nat->bL->List Tok->aA bL
 | 0,p,ts=>.ok p ts
 | f+1,p,ts=>if ts.isEmpty=ap then .ok p [] else(js e p ts).bind fun q r=>jq e f q r
def vt (e:Nat)(ts:List Tok):aA bL:=jq e ts.length ⟨[],[],[],[]⟩ ts
def qN (l:Lu):aA bL:=zV vt l
theorem fJ {c d:Type}{x:aA c}{f:c->List Tok->aA d}(hx:∀a r,x=.ok a r->r<:+ts)(hf:∀a,du (f a)):∀b r,x.bind f=.ok b r->r<:+ts:=by
 intro b r h;obtain⟨a,s,e,g⟩:=aQ h;exact(hf a s b r g).trans (hx a s e)
theorem sK {b c:Type}(f:b->c)(a:b):du (fun r=>aA.ok (f a) r):=fun ts d r h=>by cases h;exact List.suffix_refl ts
theorem yg {b:Type}{P:List Tok->aA b}(h:du P)(ts:List Tok):∀a r,P ts.tail=.ok a r->r<:+ts:=fun a r g=>(h _ a r g).trans (jJ ts)
theorem Qw (e:Nat):du (kn e):=by
 intro ts a r h;unfold kn at h;split at h
 ·cases h;exact jJ ts
 ·exact fJ (gZ e zX ts) (fun _=>sK (fun _=>2) 0) a r h
theorem Y9 (e:Nat):du (nO e):=fun ts=>fJ (gZ e [58] ts) fun _ a=>fJ (Qw e a) fun t b=>fJ (JV e b) fun _=>sK (fun l=>(t,l)) _
theorem A7 (e:Nat):du (gY e):=fun ts=>fJ (iJ e ts) fun s a=>fJ (Y9 e a) fun _=>sK (fun k:Int×List Po=>(⟨s,k.1,k.2⟩:cV)) _
theorem abN (e:Nat):du (vO e):=fun ts=>fJ (gZ e nl ts) fun _ a=>fJ (iJ e a) fun s b=>fJ (gZ e [59] b) fun _=>sK (fun _=>s) 0
theorem acp (e:Nat):du (vS e):=fun ts=>fJ (gZ e oG ts) fun _ a=>fJ (iJ e a) fun s b=>fJ (iJ e b) fun t c=>fJ (gZ e [59] c) fun _=>sK (fun _=>(s,t)) 0
theorem abO (e:Nat):du (td e):=fun ts=>fJ (yg (A7 e) ts) fun q a=>fJ (gZ e [59] a) fun _=>sK (fun _=>(⟨(nx ts).2.1,q.name,(nx ts).2.2==mN,q.type,q.eo⟩:ii)) 0
theorem GA (e:Nat)(s:aV):du (mP e s):=fun ts=>fJ (gZ e [59] ts) fun _=>sK (fun _=>s) 0
theorem aph {S:List Tok->aA aV}(hS:du S):∀m acc,du (io e S m acc):=by
 intro m;induction m with
 | zero=>
  intro acc ts a r h;unfold io at h;split at h
  ·cases h;exact jJ ts
  ·cases h
 | succ m b=>
  intro acc ts a r h;unfold io at h;split at h
  ·cases h;exact jJ ts
  ·exact fJ (hS ts) (fun s=>b (acc++[s])) a r h
theorem apa (e p:Nat)(s:Bt):du (Dq e p s):=fun ts=>fJ (Dm (xI e 12) ts) fun _=>sK (fun a=>Tr.mk 4 p 0 0 s [] a) _
theorem akY {B:List Tok->aA (List aV)}(c:du B):du (NI e B):=fun ts=>fJ (yg (xI e 12) ts) fun x f=>fJ (c f) fun a d b r h=>by
 split at h
 ·exact fJ (yg c d) (fun _=>sK (fun b=>aV.mk 3 (nx ts).2.1 (ba []) (ba []) ak [] x a b) _) b r h
 ·cases h;exact List.suffix_refl d
theorem adH {B:List Tok->aA (List aV)}(b:du B):du (MN e B):=fun ts=>fJ (yg (xI e 12) ts) fun x c=>fJ (b c) fun _=>sK (fun a=>aV.mk 4 (nx ts).2.1 (ba []) (ba []) ak [] x a []) _
theorem TU (e:Nat):du (pS e):=by
 intro ts a r h;unfold pS at h;split at h
 ·exact fJ (JV e ts) (fun _=>sK (fun l=>(ap,l)) _) a r h
 ·cases h;exact List.suffix_refl ts
theorem ajC (e:Nat):du (JR e):=fun ts=>fJ (yg (iJ e) ts) fun _ a=>fJ (TU e a) fun _ b=>fJ (gZ e [61] b) fun _ c=>fJ (xI e 12 c) fun _=>GA e _
theorem aeY (e:Nat):du (QK e):=fun ts=>fJ (yg (iJ e) ts) fun _ a=>fJ (xI e 12 a) fun _=>GA e _
theorem aes (e:Nat):du (QA e):=fun ts=>fJ (yg (iJ e) ts) fun _ a=>fJ (iJ e a) fun _=>GA e _
theorem anQ (e:Nat):du (TA e):=fun ts=>fJ (yg (iJ e) ts) fun s a=>fJ (apa e (bI e ts.tail) s a) fun _=>GA e _
theorem afz (e:Nat):du (QZ e):=fun ts=>fJ (yg (xI e 12) ts) fun _=>GA e _
theorem aeX (e:Nat):du (QJ e):=fun ts=>fJ (iJ e ts) fun _ a=>fJ (gZ e [61] a) fun _ b=>fJ (xI e 12 b) fun _=>GA e _
theorem QG {B:List Tok->aA (List aV)}(b:du B):du (fd e B):=by
 intro ts a r h;unfold fd at h;split at h;· exact akY b ts a r h
 split at h;· exact adH b ts a r h
 split at h;· exact ajC e ts a r h
 split at h;· exact aeY e ts a r h
 split at h;· exact aes e ts a r h
 split at h;· exact anQ e ts a r h
 split at h;· exact afz e ts a r h
 exact aeX e ts a r h
theorem FQ (e:Nat):∀k,du (block e k):=by
 intro k;induction k with
 | zero=>
  intro ts a r h;obtain⟨_,_,_,b⟩:=aQ h;cases b
 | succ k c=>exact fun ts=>fJ (gZ e [123] ts) fun _=>aph (QG c) 20 []
theorem Jw (e:Nat):du (vn e):=by
 intro ts a r h;unfold vn at h;split at h
 ·exact fJ (Y9 e ts) (fun _=>sK (fun k:Int×List Po=>(⟨ba [],k.1,k.2⟩:cV)) _) a r h
 ·cases h;exact List.suffix_refl ts
theorem LH (e:Nat):du (vQ e):=by
 intro ts a r h;unfold vQ at h;split at h
 ·exact yg (JV e) ts a r h
 ·cases h;exact List.suffix_refl ts
theorem Lm (e:Nat):du (vM e):=by
 intro ts a r h;unfold vM at h;split at h
 ·exact yg (RF (iJ e)) ts a r h
 ·cases h;exact List.suffix_refl ts
def Jc {α:Type}(P:List Tok->aA α):Prop:=∀ts a r,P ts=.ok a r->r.length<ts.length
theorem YN {a b:List Tok}(h:a<:+b):a.length<=b.length:=h.length_le
theorem RC {s:Lu}(c:s≠[]):Jc (aR e s):=by
 intro ts a r h;unfold aR at h;split at h
 ·rename_i b;cases h;cases ts with
  | nil=>
   unfold aO nx at b;simp at b;exact absurd b c
  | cons t q=>simp
 ·cases h
theorem TQ {b c:Type}{P:List Tok->aA b}{f:b->List Tok->aA c}(d:Jc P)(hf:∀a,du (f a)):Jc (fun ts=>(P ts).bind f):=by
 intro ts e r h;obtain⟨a,s,g,i⟩:=aQ h;have:=d ts a s g;have:=YN (hf a s e r i);omega
theorem aoC (e:Nat):Jc (vO e):=TQ (RC (by decide)) fun _ a=>fJ (iJ e a) fun s b=>fJ (gZ e [59] b) fun _=>sK (fun _=>s) 0
theorem aqr (e:Nat):Jc (vS e):=TQ (RC (by decide)) fun _ a=>fJ (iJ e a) fun s b=>fJ (iJ e b) fun t c=>fJ (gZ e [59] c) fun _=>sK (fun _=>(s,t)) 0
theorem agp (e:Nat):Jc (vu e):=TQ (RC (by decide)) fun p a=>fJ (iJ e a) fun s b=>fJ (Dm (A7 e) b) fun q c=>fJ (Jw e c) fun t r4=>fJ (LH e r4) fun d g=>fJ (Lm e g) fun f h=>fJ (FQ e 12 h) fun _=>sK (fun y=>(⟨p,s,q,t,d,f,y⟩:dV)) _
theorem aoI (e:Nat)(b:ts≠[]){a:ii}(h:td e ts=.ok a r):r.length<ts.length:=by
 have c:r<:+ts.tail:=fJ (A7 e ts.tail) (fun q d=>fJ (gZ e [59] d) fun _=>sK (fun _=>(⟨(nx ts).2.1,q.name,(nx ts).2.2==mN,q.type,q.eo⟩:ii)) 0) a r h;have f:=YN c;cases ts with
 | nil=>exact absurd rfl b
 | cons t q=>simp at f⊢;omega
theorem Nj {b:Type}{m:Nat}{l c:List b}{P:List Tok->aA b}(h:fT e m l P ts=.ok c r):∃a,P ts=.ok a r/\c=l++[a]/\l.length≠m:=by
 unfold fT at h;split at h
 ·cases h
 ·obtain⟨a,s,d,f⟩:=aQ h;cases f;exact⟨a,d,rfl,‹_›⟩
theorem CH (e:Nat)(p:bL)(f:ts≠[]){q:bL}(h:js e p ts=.ok q r):r.length<ts.length:=by
 unfold js at h;split at h
 ·obtain⟨_,_,b,c⟩:=aQ h;cases c;obtain⟨a,d,_⟩:=Nj b;exact aoC e ts a r d
 split at h
 ·obtain⟨_,_,b,c⟩:=aQ h;cases c;obtain⟨a,d,_⟩:=Nj b;exact aqr e ts a r d
 split at h
 ·obtain⟨_,_,b,c⟩:=aQ h;cases c;obtain⟨a,d,_⟩:=Nj b;exact aoI e f d
 split at h
 ·obtain⟨_,_,b,c⟩:=aQ h;cases c;obtain⟨a,d,_⟩:=Nj b;exact agp e ts a r d
 ·cases h
theorem agi (e:Nat):∀f g p ts,ts.length<=f->ts.length<=g->jq e f p ts=jq e g p ts:=by
 intro f;induction f with
 | zero=>
  intro g p ts hf _;have:ts=[]:=List.length_eq_zero_iff.1 (by omega);subst this;cases g<;>simp[jq]
 | succ f a=>
  intro g p ts hf i;cases g with
  | zero=>
   have:ts=[]:=List.length_eq_zero_iff.1 (by omega);subst this;simp[jq]
  | succ g=>
   unfold jq;split
   ·rfl
   ·rename_i b;have d:ts≠[]:=(by intro h;subst h;simp at b);cases hp:js e p ts with
    | no c q=>rfl
    | ok q r=>
     have:=CH e p d hp;exact a g q r (by omega) (by omega)
theorem Xs (e:Nat)(p:bL):jq e (t::r).length p (t::r)=(js e p (t::r)).bind fun q s=>jq e s.length q s:=by
 show(if(t::r).isEmpty=ap then _ else _)=_;rw[if_neg (by simp)];cases hp:js e p (t::r) with
 | no c q=>rfl
 | ok q s=>
  have:=CH e p (by simp) hp;exact agi e _ _ q s (by simp at this;omega) (aD _)
end ag
open ag (Tr Po aV cV ii dV bL)
def bH {α:Type}(El:au->(Np)->α->Lv->Prop)(w:au)(S:Np)(sz:Nat)(v:aw)(l:List α):Prop:=∃css,gj w S sz v css/\css.length=l.length/\∀i (h:i<l.length) (h':i<css.length),El w S l[i] css[i]
theorem bH.keeps {b:Type}{El:au->(Np)->b->Lv->Prop}{l:List b}(c:∀{a:b} {cs:Lv},El w S a cs->El w' S a cs)(h:bH El w S sz v l)(k:aP S w w'):bH El w' S sz v l:=by
 obtain⟨d,e,f,g⟩:=h;exact⟨d,e.keeps k,f,fun i j m=>c (g i j m)⟩
theorem bH.mono {c:Type}{El:au->(Np)->c->Lv->Prop}{l:List c}(d:∀{a:c} {cs:Lv},El w S a cs->El w S' a cs)(h:bH El w S sz v l)(k:∀b,S b->b<w.heap.size->S' b):bH El w S' sz v l:=by
 obtain⟨e,f,g,j⟩:=h;exact⟨e,f.mono k,g,fun i m n=>d (j i m n)⟩
theorem bH.val {b:Type}{El:au->(Np)->b->Lv->Prop}{l:List b}(h:bH El w S sz v l):∃a c,v=O a l.length c:=by
 obtain⟨g,d,e,_⟩:=h;obtain⟨a,c,f⟩:=d.val;exact⟨a,c,by rw[f,e]⟩
theorem bH.none {a:Type}(El:au->(Np)->a->Lv->Prop)(w:au)(S:Np)(sz:Nat):bH El w S sz (O U 0 0) []:=⟨[],gj.none _ _ _ _,rfl,fun i h=>by simp at h⟩
theorem bO.rows {a:Type}{El:au->(Np)->a->Lv->Prop}{l:List a}(K:ng El sz)(h:bO El w B e sz v l):bH El w (fun b=>B<=b) sz v l:=h.row K
def fW (w:au)(S:Np)(q:cV)(cs:Lv):Prop:=∃lv,cs=[H q.name,A I q.type,lv]/\q.name.size<=maxLen/\dw w S lv q.eo
def pu (w:au)(S:Np)(c:ii)(cs:Lv):Prop:=∃lv,cs=[A I c.at_,H c.name,.bool c.ul,A I c.type,lv]/\c.name.size<=maxLen/\dw w S lv c.eo
def uf (_:au)(_:Np)(q:Bt×Bt)(cs:Lv):Prop:=cs=[H q.1,H q.2]/\q.1.size<=maxLen/\q.2.size<=maxLen
theorem JY (h:dw w S v l):v.oneCell'=ap:=by
 obtain⟨a,c,rfl⟩:=h.val;rfl
theorem ic:ng fW 3:=by
 refine⟨fun h k=> ?_,fun h k=> ?_,fun h=> ?_,fun h u d=> ?_⟩
 ·obtain⟨lv,a,c,b⟩:=h;exact⟨lv,a,c,b.keeps k⟩
 ·obtain⟨lv,a,c,b⟩:=h;exact⟨lv,a,c,b.mono k⟩
 ·obtain⟨lv,a,_⟩:=h;rw[a];rfl
 ·obtain⟨lv,a,c,b⟩:=h;rw[a] at d;simp only[fN,kD,or_false] at d;rcases d with rfl | rfl | rfl<;>first | rfl | exact JY b
theorem gy:ng pu 5:=by
 refine⟨fun h k=> ?_,fun h k=> ?_,fun h=> ?_,fun h u d=> ?_⟩
 ·obtain⟨lv,a,c,b⟩:=h;exact⟨lv,a,c,b.keeps k⟩
 ·obtain⟨lv,a,c,b⟩:=h;exact⟨lv,a,c,b.mono k⟩
 ·obtain⟨lv,a,_⟩:=h;rw[a];rfl
 ·obtain⟨lv,a,c,b⟩:=h;rw[a] at d;simp only[fN,kD,or_false] at d;rcases d with rfl | rfl | rfl | rfl | rfl<;>first | rfl | exact JY b
theorem ia:ng uf 2:=⟨fun h _=>h,fun h _=>h,fun h=>by rw[h.1];rfl,fun h u a=>by
 rw[h.1] at a;simp only[fN,kD,or_false] at a
 rcases a with rfl | rfl<;>rfl⟩
inductive bK (w:au)(S:Np):aV->Lv->Prop
 | mk {k p:Int} {s o:Bt} {d:Bool} {l:List Po} {e:Tr} {a b:List aV} {lv av bv:Value} {ce:Lv} {IA Iz:List (Lv)} (hs:s.size<=maxLen) (ho:o.size<=maxLen) (hl:dw w S lv l) (he:aS w S e ce) (cr:gj w S 15 av IA) (BE:IA.length=a.length) (br:gj w S 15 bv Iz) (rU:Iz.length=b.length)
  (nU:∀i (h:i<a.length) (h':i<IA.length),bK w S a[i] IA[i]) (mU:∀i (h:i<b.length) (h':i<Iz.length),bK w S b[i] Iz[i]):bK w S (.mk k p s o d l e a b) ([A I k,A I p,H s,H o,.bool d,lv]++ce++[av,bv])
theorem bK.len {t:aV}(h:bK w S t cs):cs.length=15:=by
 cases h with
 | mk b c d a=>simp[a.len]
theorem bK.keeps {t:aV}(h:bK w S t cs)(k:aP S w w'):bK w' S t cs:=by
 induction h with
 | mk a b c d e f g i _ _ j l=>exact .mk a b (c.keeps k) (d.keeps k) (e.keeps k) f (g.keeps k) i j l
theorem bK.mono {t:aV}(h:bK w S t cs)(k:∀b,S b->b<w.heap.size->S' b):bK w S' t cs:=by
 induction h with
 | mk a c d e f g i j _ _ l m=>exact .mk a c (d.mono k) (e.mono k) (f.mono k) g (i.mono k) j l m
theorem iA:ng bK 15:=by
 refine⟨fun h k=>h.keeps k,fun h k=>h.mono k,fun h=>h.len,fun h u a=> ?_⟩;cases h with
 | mk i j b d e l f m n o=>
  simp only[List.mem_append,fN,kD,or_false] at a;rcases a with((rfl | rfl | rfl | rfl | rfl | rfl)| a)| rfl | rfl
  ·rfl
  ·rfl
  ·rfl
  ·rfl
  ·rfl
  ·exact JY b
  ·exact oQ.one d u a
  ·obtain⟨g,c,rfl⟩:=e.val;rfl
  ·obtain⟨g,c,rfl⟩:=f.val;rfl
theorem bK.rows {k:Int}{d:Bool}{e:Tr}{a b:List aV}(h:bK w S (.mk k p s o d l e a b) cs):∃lv c f g,cs=[A I k,A I p,H s,H o,.bool d,lv]++c++[f,g]/\s.size<=maxLen/\o.size<=maxLen/\dw w S lv l/\aS w S e c/\bH bK w S 15 f a/\bH bK w S 15 g b:=by
 cases h with
 | mk i j m n q r t u v x=>exact⟨_,_,_,_,rfl,i,j,m,n,⟨_,q,r,v⟩,⟨_,t,u,x⟩⟩
theorem bK.of {k:Int}{d:Bool}{e:Tr}{a b:List aV}{lv c f:aw}{g:Lv}(h:s.size<=maxLen)(i:o.size<=maxLen)(j:dw w S lv l)(m:aS w S e g)(n:bH bK w S 15 c a)(q:bH bK w S 15 f b):bK w S (.mk k p s o d l e a b) ([A I k,A I p,H s,H o,.bool d,lv]++g++[c,f]):=by
 obtain⟨v,a1,a2,a3⟩:=n;obtain⟨x,r,t,u⟩:=q;exact .mk h i j m a1 a2 r t a3 u
def nH (w:au)(S:Np)(p:dV)(cs:Lv):Prop:=∃pv rl bv fv yv,cs=[A I p.at_,H p.name,pv,H p.result.name,A I p.result.type,rl,bv,fv,yv]/\p.name.size<=maxLen/\p.result.name.size<=maxLen/\bH fW w S 3 pv p.params/\dw w S rl p.result.eo/\dw w S bv p.pQ/\kv w S fv p.for_/\bH bK w S 15 yv p.body
theorem gh:ng nH 9:=by
 refine⟨fun h k=> ?_,fun h k=> ?_,fun h=> ?_,fun h u p=> ?_⟩
 ·obtain⟨b,rl,d,e,f,a,n,o,g,i,j,l,m⟩:=h;exact⟨b,rl,d,e,f,a,n,o,g.keeps (fun h=>ic.keeps h k) k,i.keeps k,j.keeps k,l.keeps k,m.keeps (fun h=>h.keeps k) k⟩
 ·obtain⟨b,rl,d,e,f,a,n,o,g,i,j,l,m⟩:=h;exact⟨b,rl,d,e,f,a,n,o,g.mono (fun h=>ic.mono h k) k,i.mono k,j.mono k,l.mono k,m.mono (fun h=>h.mono k) k⟩
 ·obtain⟨b,rl,d,e,f,a,_⟩:=h;rw[a];rfl
 ·obtain⟨b,rl,d,e,f,a,n,o,g,i,j,l,m⟩:=h;rw[a] at p;simp only[fN,kD,or_false] at p;rcases p with rfl | rfl | rfl | rfl | rfl | rfl | rfl | rfl | rfl
  ·rfl
  ·rfl
  ·obtain⟨q,c,rfl⟩:=g.val;rfl
  ·rfl
  ·rfl
  ·exact JY i
  ·exact JY j
  ·obtain⟨q,c,rfl⟩:=l.row.val;rfl
  ·obtain⟨q,c,rfl⟩:=m.val;rfl
def jj (w:au)(S:Np)(p:bL)(cs:Lv):Prop:=∃cv av nv qv,cs=[cv,av,nv,qv]/\kv w S cv p.dl/\bH uf w S 2 av p.cZ/\bH pu w S 5 nv p.bz/\bH nH w S 9 qv p.procs
theorem jj.keeps {p:bL}(h:jj w S p cs)(k:aP S w w'):jj w' S p cs:=by
 obtain⟨a,b,c,d,e,f,g,i,j⟩:=h;exact⟨a,b,c,d,e,f.keeps k,g.keeps (fun h=>ia.keeps h k) k,i.keeps (fun h=>gy.keeps h k) k,j.keeps (fun h=>gh.keeps h k) k⟩
theorem jj.mono {p:bL}(h:jj w S p cs)(k:∀b,S b->b<w.heap.size->S' b):jj w S' p cs:=by
 obtain⟨a,c,d,e,f,g,i,j,l⟩:=h;exact⟨a,c,d,e,f,g.mono k,i.mono (fun h=>ia.mono h k) k,j.mono (fun h=>gy.mono h k) k,l.mono (fun h=>gh.mono h k) k⟩
open ag (Tok Tr Po aA nx bI aO gg ba aV cV ii dV bL)
def AgS {α:Type}(w:au)(tb e:Nat)(ts:List Tok)(v:aw)(bl al:Int)(R:aA α)(F:List Tr->List Tok->aA α)(x:Ending)(w':au):Prop:=
 ∃(lo:Oa) (ln lc:Nat),x=aE (O lo ln lc)/\w.grownBy w' (Z tb)/\∃l k c p,St w' tb e ts v bl al R (F l) k c p/\(aY R->bO od w' w.heap.size 48 7 (O lo ln lc) l)
theorem aqb {j:Type}(t:ag.Good ts)(y:zO V e ts v bl al E){R:aA j}{f:List Tr->List Tok->aA j}(h:St w V e ts v bl al R (fun r=>(ag.ei e [40] [44] [41] 4 E r).bind f) k c p):
 aC prog 106 #[aB (Z (Y V 0 U))] w (AgS w V e ts v bl al R f):=by
 obtain⟨m,⟨rfl,a⟩|⟨n,rfl,q,rfl,a⟩⟩:=h
 ·refine(acm t y m).mono ?_;rintro x w' ⟨o,⟨l,k,p,u,b,d,g,i⟩|⟨c,q,u,b,d,⟨z,B,C,rfl⟩,g,i⟩⟩
  ·obtain⟨F,G,rfl⟩:=g.slice;exact⟨_,_,_,d,o,l,k,0,p,⟨i,.inl ⟨rfl,by rw[a];show(ag.ei e [40] [44] [41] 4 E _).bind f=_;rw[b];rfl⟩⟩,fun _=>g⟩
  ·have s:R=.no c q:=(by rw[a];show(ag.ei e [40] [44] [41] 4 E _).bind f=_;rw[b];rfl);exact⟨z,B,C,d,o,[],ts.length,c,q,⟨i,.inr ⟨g,rfl,q,rfl,s⟩⟩,fun h=>(h.no s).elim⟩
 ·refine(aqc n m).mono ?_;rintro x w' ⟨rfl,b,d⟩;exact⟨_,_,_,rfl,b,[],ts.length,c,q,⟨d,.inr ⟨n,rfl,q,rfl,a⟩⟩,fun h=>(h.no a).elim⟩
def vT {α:Type}(w:au)(tb e:Nat)(ts:List Tok)(v:aw)(bl al:Int)(R:aA α)(K:List Tok->aA α)(k:Nat)(c p:Int)(r:Bool)(w':au):Prop:=
 w.grownBy w' (Z tb)/\(r=ap->c=0/\k<ts.length/\R=K (ts.drop k)/\Tx w' tb e ts v (k+1) 0 p bl al)/\(r=ak->St w' tb e ts v bl al R K k c p)
theorem tG {d:Type}{R:aA d}{K:List Tok->aA d}(f:ag.Good ts){s:Lu}(g:ag.Fix s)(i:s≠[])(h:St w V e ts v bl al R K k c p):
 aC prog 50 #[aB (Z (Y V 0 U)),H (ba s)] w fun x w'=>x=aE (.bool (aO s (ts.drop k)))/\vT w V e ts v bl al R K k c p (aO s (ts.drop k)) w':=by
 have hn:=vl s h.1;rw[np f g i] at hn;refine hn.mono ?_;rintro x w' ⟨rfl,j,l,a⟩;refine⟨rfl,j,fun b=> ?_,fun b=> ?_⟩
 ·have m:=l b;rw[b,if_pos rfl] at a;rcases h.2 with⟨rfl,n⟩|⟨_,o,_⟩
  ·exact⟨rfl,m,n,a⟩
  ·omega
 ·rw[b] at a;exact⟨a,h.2⟩
theorem NC {F:Type}{R:aA F}{K:Int->List Tok->aA F}(i:ag.Good ts)(h:St w V e ts v bl al R (fun r=>(ag.kn e r).bind K) k c p):
 aC prog 53 #[aB (Z (Y V 0 U))] w fun x w'=>∃t:Int,x=aE (A I t)/\AB w V e ts v bl al R (K t) w':=by
 have j:=tG (s:=[105,110,116]) i (.inl (by decide)) (by decide) h;have ad:=am h;have X:=am i;obtain⟨l,m⟩:∃l,aO [105,110,116] (ts.drop k)=l:=⟨_,rfl⟩;have G:=am m;rw[m] at j;clear h i m;go_enter func53,ntmps53;go_wp2_with fail;refine j.mono ?_;rintro x w1 ⟨rfl,L⟩;have a:=am L;clear L j;cases l with
 | true=>
  go_wp2;go_ret;obtain⟨e1,e2,n,o⟩:=a.2.1 rfl;refine⟨1,rfl,a.1,k+1,0,p,o,.inl ⟨rfl,?_⟩⟩;rw[n];have b:ag.kn e (ts.drop k)=.ok 1 (ts.drop (k+1)):=(by unfold ag.kn;rw[show ag.MP=[105,110,116] from rfl,if_pos G.out,drop_tail]);simp only[b];rfl
 | false=>
  have N:=a.2.2 rfl;have u:=tG (s:=[98,111,111,108]) X.out (.inl (by decide)) (by decide) N;obtain⟨y,z⟩:∃y,aO [98,111,111,108] (ts.drop k)=y:=⟨_,rfl⟩;have P:=am z;rw[z] at u;have Q:ah (ag.kn e (ts.drop k)=(ag.aR e ag.zX (ts.drop k)).bind fun _ r=>.ok 2 r):=(by show _=_;unfold ag.kn;rw[if_neg (by rw[show ag.MP=[105,110,116] from rfl,G.out];simp)]);clear z N;go_wp2_with fail;refine u.mono ?_;rintro x w2 ⟨rfl,S⟩;have d:=am S;clear S u;cases y with
  | true=>
   go_wp2;go_ret;obtain⟨e1,e2,n,o⟩:=d.2.1 rfl;refine⟨2,rfl,a.1.trans d.1,k+1,0,p,o,.inl ⟨rfl,?_⟩⟩;rw[n];have b:ag.kn e (ts.drop k)=.ok 2 (ts.drop (k+1)):=(by rw[Q.out,show ag.zX=[98,111,111,108] from rfl,Bb P.out];rfl);simp only[b];rfl
  | false=>
   have g:=d.2.2 rfl;have T:=wT 1 g.1;clear g;go_wp2_with fail;refine T.mono ?_;rintro x w3 ⟨rfl,W⟩;have B:=am W;clear W T;go_wp2;go_ret;have g:=d.2.2 rfl;refine⟨0,rfl,(a.1.trans d.1).trans B.1,?_⟩;rcases g.2 with⟨rfl,C⟩|⟨E,rfl,q,rfl,C⟩
   ·have f:=B.2;rw[if_pos rfl,if_pos rfl] at f;refine⟨_,_,_,f,.inr ⟨by decide,rfl,_,rfl,?_⟩⟩;rw[C];have b:ag.kn e (ts.drop k)=.no 1 (bI e (ts.drop k)):=(by rw[Q.out,show ag.zX=[98,111,111,108] from rfl,Bb P.out];rfl);simp only[b];rfl
   ·have f:=B.2;rw[if_neg E,if_neg E] at f;exact⟨_,_,_,f,.inr ⟨E,rfl,q,rfl,C⟩⟩
theorem adY {a:Int}(h:W.heap[V]? =Z (M (pw v k e c p bl al) 102)):(W.setCell (Y V 5 U) (A I a)).heap[V]? =Z (M (pw v k e c p a al) 102):=by
 simp only[bw,dM,h];simp[pw]
theorem Tx.within (h:Tx w V e ts v k c p bl al)(a:Int):w.grownBy (w.setCell (Y V 5 U) (A I a)) (Z V)/\Tx (w.setCell (Y V 5 U) (A I a)) V e ts v k c p a al:=by
 have b:w.grownBy (w.setCell (Y V 5 U) (A I a)) (Z V):=eR (jh _ _) rfl _;exact⟨b,h.kept b (adY h.bE) h.le h.kO⟩
theorem apy (u:FrameMode)(g:d<=12)(h:Tx w V e ts v k c p ((d+1:Nat):Int) al)(a:w.heap[n]? =Z (M #[aB (Z (Y V 0 U))] 43)):
 CallsD prog 104 #[aB (Z (Y n 0 U))] u w fun x b w'=>b=u/\(x=aE (.tuple #[])/\w'=w.setCell (Y V 5 U) (A I (d:Int))/\Tx w' V e ts v k c p d al):=by
 obtain⟨i,j,l,m,o,q,r⟩:=h.cells;have N:=h.free 5;have s:=h.lt;have k0:w.cell? (Y n 0 U)=Z (aB (Z (Y V 0 U))):=(by simp[aN,a]);have f:ah (Tx (w.setCell (Y V 5 U) (A I (d:Int))) V e ts v k c p d al):=(h.within _).2;clear h
 go_enter_d func104,ntmps104
 go_wp2
 go_end0
 exact⟨rfl,rfl,f.out⟩
def apA (n:Nat):Deferred:={target:=.fn (.func 104) #[aB (Z (Y n 0 U))],args:=#[]}
def BkP {α:Type}(w:au)(tb e:Nat)(ts:List Tok)(v:aw)(bl:Int)(R:aA α)(F:List aV->List Tok->aA α)(x:Ending)(w':au):Prop:=
 ∃(lo:Oa) (ln lc:Nat),x=aE (O lo ln lc)/\w.grownBy w' (Z tb)/\∃l k c p,St w' tb e ts v bl 0 R (F l) k c p/\(aY R->bH bK w' (fun b=>w.heap.size<=b) 15 (O lo ln lc) l)
def Gr (tb e:Nat)(ts:List Tok)(v:aw)(bl:Int)(B:List Tok->aA (List aV)):Prop:=∀(α:Type) (R:aA α) (F:List aV->List Tok->aA α) (w:au) (k:Nat) (c p:Int),St w tb e ts v bl 0 R (fun r=>(B r).bind F) k c p->aC prog 56 #[aB (Z (Y tb 0 U))] w (BkP w tb e ts v bl R F)
theorem TP {j:Type}{R:aA j}{m:List aV->List Tok->aA j}{a:Oa}{g i:Nat}{l:List aV}(s:d<=12)(t:w.grownBy wz (Z V))(C:V<w.heap.size)(n:wz.heap[w.heap.size]? =Z (M #[aB (Z (Y V 0 U))] 43))(o:St wz V e ts v ((d+1:Nat):Int) 0 R (m l) k c p)(u:aY R->bH bK wz (fun b=>w.heap.size<=b) 15 (O a g i) l)(y:tm[2]? =Z (O a g i)):
 Leaves prog f56 tm (BkP w V e ts v d R m) [apA w.heap.size] .returning wz:=by
 refine leaves_cons (f:=104) (args:=#[aB (Z (Y w.heap.size 0 U))]) (by simp) (by simp[go_sem]) ?_;refine(apy .returning s o.1 n).mono ?_;rintro x E ek ⟨rfl,rfl,q,z⟩;refine⟨O a g i,by simp[results,results56,go_sem,y],_,_,_,rfl,by rw[q];exact eR t rfl _,l,k,c,p,⟨z,o.2⟩,fun B=> ?_⟩;have r:aP (fun b=>w.heap.size<=b) wz ek:=(by rw[q];exact aP.bP (eR (jh _ _) rfl _) fun b n=>by simp;omega);exact(u B).keeps (fun h=>h.keeps r) r
end Go.Proofs.YtoiiahpdbcokaaaGreatDoor
