/- The document's own reader: what expr holds between its steps. And more of the same. -/
import Derived.Test.YtoiiahpdbcokaaaGreatDoorZH
import Derived.Lib.IndexMore
import Derived.Lib.Bytealg
import Derived.Lib.SlTrimSet
import Derived.Test.YtoiiahpdbcokaaaGreatDoorZShelfT
import Derived.Outline
import Derived.Lib.SmallJoins
namespace Go.Proofs.YtoiiahpdbcokaaaGreatDoor
open Go.Value renaming int -> A, slice -> O, string -> H, pointer -> aB, bool -> az
open Go.IntKind renaming i64 -> I
open _root_.Option renaming none -> U, some -> Z
open Go.Addr renaming mk -> Y
open Go.Obj renaming cells -> M
open Go renaming lt_of_block -> J, World -> au, Value -> aw, Calls -> aC
open _root_.Nat renaming le_refl -> aD, lt_of_lt_of_le -> gD
open Go.Ending renaming returned -> aE
open Go.RowKit.Below renaming refl -> aF, heap_setCell -> dL
open _root_.List renaming setIfInBounds_toArray -> bJ, set_cons_succ -> bN, set_cons_zero -> bM, mem_cons -> fN, not_mem_nil -> kD
open Go.World renaming cell? -> aN, cell?_of_block -> en
open _root_.Bool renaming false -> ak, true -> ap
open Go.Act renaming put -> aU
open Go.RowKit renaming Hid -> ah
open _root_.Go.Proofs.Tryz
set_option maxRecDepth 100000
set_option maxHeartbeats 8000000
open Go.RowKit
open ag (Tok Tr Po aA nx bI aO gg ba)
variable {ok:Prop} {B G K L a d5 d6 e f k k0 F m5 C V:Nat} {lv rH E sE v v':aw} {w w' w1 w8 N wr:au} {al Ay bl Aw c p p0 z0 z1 z2 z3:Int} {s z4:Bt} {d z:Oa} {xs X:List Tr} {Q ts us:List Tok} {P:List Tok->aA Tr} {R:aA Tr} {o x y:Tr} {t:Tok} {l n:Lu} {zs:Lv}
structure zN (w wr:au)(tb e:Nat)(ts:List Tok)(v:aw)(bl al:Int)(P:List Tok->aA Tr)(R:aA Tr)(L G:Nat)(xs:List Tr)(x:Tr)(ss:List Tok)(k:Nat)(c p:Int):Prop where
 gr:w.grownBy wr (Z tb)
 res:wr.heap[w.heap.size]? =Z (M ZE 48)
 jn:∃lv sv,lE (aY R) wr (w.heap.size+1) L G lv sv (xs++[x]) ss
 len:xs.length=ss.length
 jZ:ss.length<=k
 tx:Tx wr tb e ts v k c p bl al
 lo:tb<w.heap.size
 on:(c=0/\ag.zS P R (ag.jn xs ss) x (ts.drop k))\/(c≠0/\k=ts.length/\∃q:Nat,p=(q:Int)/\R=.no c q)
theorem uX.of {S:Np}{a:Tr}(h:ok->aS w (fun b=>S b/\b≠L/\b≠G/\Z b≠E.ownBlock) a [A I z0,A I z1,A I z2,A I z3,H z4,O d m5 d5,O z C d6]):uX ok L G E w S a (#[A I z0,A I z1,A I z2,A I z3,H z4,O d m5 d5,O z C d6]:Av).toList:=⟨⟨_,_,_,_,_,_,_,_,_,_,_,rfl⟩,h⟩
theorem lE.grown (h:lE ok w B L G lv E xs Q)(a:w.grownBy w' (Z V))(b:V<B)(c:V≠L)(d:V≠G):lE ok w' B L G lv E xs Q:=
 ⟨(a.block _ (J h.lb) (by simp;omega)).trans h.lb,(a.block _ (J h.gb) (by simp;omega)).trans h.gb,h.lo.grown (CO ok L G _) a b,h.go.grown J3 a b⟩
theorem zN.step (h:zN w wr V e ts v bl al P R L G xs x Q k c p)(a:Bl wr w')(g:w.heap.size<L)(i:w.heap.size<G):zN w w' V e ts v bl al P R L G xs x Q k c p:=by
 obtain⟨lv,E,d⟩:=h.jn;have l:=h.lo;have b:wr.grownBy w' (Z V):=⟨a.os,a.tape,a.output,a.size,fun j f _=>a.block j f⟩;exact⟨h.gr.trans b,(a.block _ (J h.res)).trans h.res,⟨lv,E,d.grown b (by omega) (by omega) (by omega)⟩,h.len,h.jZ,h.tx.later a,h.lo,h.on⟩
structure I9 (w wr:au)(tb e:Nat)(ts:List Tok)(v:aw)(bl al:Int)(R:aA Tr)(L G:Nat)(xs:List Tr)(x:Tr)(ss:List Tok)(k:Nat)(c p:Int):Prop where
 gr:w.grownBy wr (Z tb)
 res:wr.heap[w.heap.size]? =Z (M ZE 48)
 jn:∃lv sv,lE (aY R) wr (w.heap.size+1) L G lv sv (xs++[x]) ss
 len:xs.length=ss.length
 jZ:ss.length<=100000
 tx:Tx wr tb e ts v k c p bl al
 lo:tb<w.heap.size
 on:(c=0/\R=.ok (ag.ko (ag.jn xs ss) x 0).2 (ts.drop k))\/(c≠0/\k=ts.length/\∃q:Nat,p=(q:Int)/\R=.no c q)
theorem ano (h:zN w wr V e ts v bl al P R L G xs x Q k c p)(a:ag.dW (nx (ts.drop k)).2.2=0):I9 w wr V e ts v bl al R L G xs x Q k c p:=
 ⟨h.gr,h.res,h.jn,h.len,Nat.le_trans h.jZ (Nat.le_trans h.tx.le h.tx.jZ),h.tx,h.lo,h.on.imp (fun⟨b,d⟩=>⟨b,ag.aou d a⟩) id⟩
def vL (w:au)(G:Nat):Nat:=match w.cell? (Y G 0 U) with
 | some sv=>lenOf sv
 | none=>0
theorem lE.vL (h:lE ok w B L G lv E xs Q):vL w G=Q.length:=by
 have a:w.cell? (Y G 0 U)=Z E:=(by simp[aN,h.gb]);unfold Go.Proofs.YtoiiahpdbcokaaaGreatDoor.vL;rw[a];exact h.go.len
def CN (w:au)(tb:Nat):Nat:=match w.cell? (Y tb 1 U) with
 | some (A _ k)=>k.toNat
 | _=>0
theorem Tx.CN (h:Tx w V e ts v k c p bl al):CN w V=k:=by
 obtain⟨_,a,_⟩:=h.cells;unfold Go.Proofs.YtoiiahpdbcokaaaGreatDoor.CN;rw[a];simp
structure ya (w wr:au)(tb e:Nat)(ts:List Tok)(v:aw)(bl al:Int)(R:aA Tr)(L G K:Nat)(t:Tok)(D:List (Tr×Tok)×Tr)(xs:List Tr)(x:Tr)(ss:List Tok)(k:Nat)(c p:Int):Prop where
 gr:w.grownBy wr (Z tb)
 res:wr.heap[w.heap.size]? =Z (M ZE 48)
 jn:∃lv sv,lE (aY R) wr (w.heap.size+1) L G lv sv (xs++[x]) ss
 len:xs.length=ss.length
 jZ:ss.length<=k
 tx:Tx wr tb e ts v k c p bl al
 lo:tb<w.heap.size
 tok:wr.heap[K]? =Z (M #[A I t.1,A I (t.2.1:Int),H (ba t.2.2)] 81)
 pop:ag.ko (ag.jn xs ss) x (ag.dh t)=D
 kl:k<ts.length
theorem anl (h:zN w wr V e ts v bl al P R L G xs x Q k c p)(a:wr.heap[K]? =Z (M #[A I t.1,A I (t.2.1:Int),H (ba t.2.2)] 81))(b:k<ts.length):ya w wr V e ts v bl al R L G K t (ag.ko (ag.jn xs Q) x (ag.dh t)) xs x Q k c p:=
 ⟨h.gr,h.res,h.jn,h.len,h.jZ,h.tx,h.lo,a,rfl,b⟩
def Er (us:List Tok)(v:Nat):Bool:=match us.getLast? with
 | some s=>decide (v<=ag.dh s)
 | none=>ak
theorem Qy (us:List Tok)(s:Tok)(v:Nat):Er (us++[s]) v=decide (v<=ag.dh s):=by simp[Er]
theorem apI (n:Nat):((n:Int)==0)=decide (n=0):=by
 by_cases h:n=0
 ·rw[h];rfl
 ·have a:((n:Int)==0)=ak:=(by simp;omega);rw[a];simp[h]
theorem IJ.below {n:Nat}(h:IJ L G w w')(a:n<L)(b:n<G)(hn:n<=w.heap.size):Below n w w':=
 ⟨h.os,h.tape,h.output,h.size,fun j c=>h.block j (by omega) (by omega) (by omega)⟩
theorem EQ {b:Type}{l:List b}(h:l≠[]):∃c a,l=c++[a]:=⟨l.dropLast,l.getLast h,(List.dropLast_concat_getLast h).symm⟩
theorem ann {s:Tok}{c0:Int}(g:Tx w V e ts v k0 c0 p0 Aw Ay)(h:w.heap.size<L)(i:w.heap.size<G)(hf:I9 w wr V e ts v bl al R L G (X++[o]) y (us++[s]) k c p)(b:IJ L G wr N)(j:lE (aY R) N (w.heap.size+1) L G rH sE (X++[ag.eK s [o,y]]) us):I9 w N V e ts v bl al R L G X (ag.eK s [o,y]) us k c p:=by
 have d:X.length=us.length:=(by have:=hf.len;simpa using this);have hn:=hf.gr.size;have f:=b.below h i hn;refine⟨mh hf.gr f,(b.block _ (J hf.res) (by omega) (by omega)).trans hf.res,⟨rH,sE,j⟩,d,?_,g.past hf.gr hf.tx f,hf.lo,?_⟩
 ·have:=hf.jZ;simp at this;omega
 ·rcases hf.on with⟨a,l⟩| a
  ·refine .inl ⟨a,?_⟩;rw[l,ag.XD d (Nat.zero_le _)]
  ·exact .inr a
theorem ya.step {D:List (Tr×Tok)×Tr}(h:ya w wr V e ts v bl al R L G K t D xs x Q k c p)(a:Bl wr w')(g:w.heap.size<L)(i:w.heap.size<G):ya w w' V e ts v bl al R L G K t D xs x Q k c p:=by
 obtain⟨lv,E,d⟩:=h.jn;have l:=h.lo;have b:wr.grownBy w' (Z V):=⟨a.os,a.tape,a.output,a.size,fun j f _=>a.block j f⟩;exact⟨h.gr.trans b,(a.block _ (J h.res)).trans h.res,⟨lv,E,d.grown b (by omega) (by omega) (by omega)⟩,h.len,h.jZ,h.tx.later a,h.lo,(a.block _ (J h.tok)).trans h.tok,h.pop,h.kl⟩
theorem ank {D:List (Tr×Tok)×Tr}{s:Tok}{c0:Int}(g:Tx w V e ts v k0 c0 p0 Aw Ay)(h:w.heap.size<L)(i:w.heap.size<G)(hf:ya w wr V e ts v bl al R L G K t D (X++[o]) y (us++[s]) k c p)(j:ag.dh t<=ag.dh s)(a:IJ L G wr N)(l:lE (aY R) N (w.heap.size+1) L G rH sE (X++[ag.eK s [o,y]]) us):ya w N V e ts v bl al R L G K t D X (ag.eK s [o,y]) us k c p:=by
 have b:X.length=us.length:=(by have:=hf.len;simpa using this);have hn:=hf.gr.size;have d:=a.below h i hn;obtain⟨q,r,f⟩:=hf.jn;have m:K≠L:=(by rintro rfl;have:=hf.tok.symm.trans f.lb;simp at this);have n:K≠G:=(by rintro rfl;have:=hf.tok.symm.trans f.gb;simp at this);refine⟨mh hf.gr d,(a.block _ (J hf.res) (by omega) (by omega)).trans hf.res,⟨rH,sE,l⟩,b,?_,g.past hf.gr hf.tx d,hf.lo,(a.block _ (J hf.tok) m n).trans hf.tok,?_,hf.kl⟩
 ·have:=hf.jZ;simp at this;omega
 ·rw[<-hf.pop,ag.XD b j]
theorem anm {D:List (Tr×Tok)×Tr}(h:ya w wr V e ts v bl al R L G K t D X y us k c p)(b:Er us (ag.dh t)=ak):D=(ag.jn X us,y):=by
 rw[<-h.pop];have a:=h.len;by_cases d:us=[]
 ·subst d;obtain rfl:X=[]:=List.length_eq_zero_iff.1 (by simpa using a);rfl
 ·obtain⟨f,s,rfl⟩:=EQ d;obtain⟨g,o,rfl⟩:=EQ (l:=X) (by rintro rfl;simp at a);rw[Qy] at b;exact ag.agK (by simpa using a) (of_decide_eq_false b)
theorem abv {f:au}(r:V<w.heap.size)(s:w.grownBy w1 (Z V))(N:w.heap.size+1<=w1.heap.size)(t:w1.heap[w.heap.size]? =Z (M ZE 48))(u:Tx w1 V e ts v k c p bl al)
 (f8:f=((w1.alloc (M #[A I z0,A I z1,A I z2,A I z3,H z4,O d m5 d5,O z C d6] 48)).alloc (M #[O (Z (Y w1.heap.size 0 U)) 1 1] 46)).alloc (M #[O U 0 0] 72))
 (hx:aY R->aS w1 (fun b=>w.heap.size+1<=b) x [A I z0,A I z1,A I z2,A I z3,H z4,O d m5 d5,O z C d6])
 (y:(c=0/\ag.zS P R (ag.jn [] []) x (ts.drop k))\/(c≠0/\k=ts.length/\∃q:Nat,p=(q:Int)/\R=.no c q)):zN w f V e ts v bl al P R (w1.heap.size+1) (w1.heap.size+1+1) [] x [] k c p:=by
 obtain⟨a,g⟩:=nm (w1.alloc (M #[A I z0,A I z1,A I z2,A I z3,H z4,O d m5 d5,O z C d6] 48));obtain⟨i,h⟩:=nm (a.alloc (M #[O (Z (Y w1.heap.size 0 U)) 1 1] 46));have m:a.heap.size=w1.heap.size+1:=(by rw[g];exact Array.size_push _);have B:i.heap.size=w1.heap.size+1+1:=(by rw[<-m,h];exact Array.size_push _);have E:Bl w1 a:=(by rw[g];exact(aF _ w1).alloc (aD _) _);have n:Bl a i:=(by rw[h];exact(aF _ a).alloc (aD _) _);have j:Bl i f:=(by rw[f8,<-g,<-h];exact(aF _ i).alloc (aD _) _);have l:=(E.trans (n.mono (by omega))).trans (j.mono (by omega));have F:f.heap[w1.heap.size+1]? =Z (M #[O (Z (Y w1.heap.size 0 U)) 1 1] 46):=(by rw[j.block _ (by omega),h,<-m];exact cu _ _ _ rfl);have G:f.heap[w1.heap.size+1+1]? =Z (M #[O U 0 0] 72):=(by rw[f8,<-g,<-h,<-B];exact cu _ _ _ rfl);have K:bO (uX (aY R) (w1.heap.size+1) (w1.heap.size+1+1) (O U 0 0)) a (w.heap.size+1) 48 7 (O (Z (Y w1.heap.size 0 U)) 1 1) [x]:=(by rw[g];exact bO.one (CO _ _ _ _) (uX.of fun o=>aS.mono (hx o) fun b L Q=>⟨L,by omega,by omega,by simp[Value.ownBlock]⟩) (by omega));refine⟨mH s l,(l.block _ (by omega)).trans t,⟨_,_,F,G,(K.below (CO _ _ _ _) n).below (CO _ _ _ _) j,bO.nil _ _ _ _ _⟩,rfl,Nat.zero_le _,u.later l,r,y⟩
theorem aij (w:au)(e:TypeId){a b c:aw}:∀j u,([a,b,c]:Lv)[j]? =Z u->(w.alloc (M #[a,b,c] e)).cell? (((Y w.heap.size 0 U):Addr).add j)=Z u:=by
 intro j u d;have f:(w.alloc (M #[a,b,c] e)).cell? (Y w.heap.size j U)=(#[a,b,c]:Av)[j]? :=World.cell?_alloc_at _ _ _ _ (by simp);have g:((Y w.heap.size 0 U):Addr).add j=(Y w.heap.size j U):=(by simp[Addr.add];intro h;exact h.symm);rw[g,f];simpa using d
theorem aeW {b:au}{css:List (Lv)}(h:lE ok b B L G lv E xs Q)(K:B<=b.heap.size)(N:(ba t.2.2).size<=maxLen)(P:css.length=Q.length)(x:b.ownsRow B 81 3 E Q.length css.flatten)(R:∀i (h:i<Q.length) (h':i<css.length),P6 b (SB B E) Q[i] css[i])
 (S:w8.ownsRow B 81 3 sE (Q.length+1) (css.flatten++[A I t.1,A I (t.2.1:Int),H (ba t.2.2)])) (p:(b.alloc (M #[A I t.1,A I (t.2.1:Int),H (ba t.2.2)] 81)).grownBy w8 E.ownBlock) (y:sE.ownBlock=E.ownBlock\/sE.ownBlock=Z (b.heap.size+1)):lE ok (w8.setCell (Y G 0 U) sE) B L G lv sE xs (Q++[t]):=by
 have T:(b.alloc (M #[A I t.1,A I (t.2.1:Int),H (ba t.2.2)] 81)).heap.size=b.heap.size+1:=Array.size_push _;have V:Bl b (b.alloc (M #[A I t.1,A I (t.2.1:Int),H (ba t.2.2)] 81)):=(aF _ _).alloc (aD _) _;have fr:∀a,a<b.heap.size->Z a≠E.ownBlock->w8.heap[a]? =b.heap[a]? :=fun a d hn=>(p.block a (by omega) hn).trans (V.block a d);have q:∀{a:Nat} {c:Av} {e:TypeId},b.heap[a]? =Z (M c e)->e≠81->Z a≠E.ownBlock:=fun{a c e} d he hq=>by
  rcases x.2 with⟨r,_⟩|⟨g,z,C,r,_,W,_⟩
  ·rw[r] at hq;cases hq
  ·rw[r] at hq;cases hq;have:=d.symm.trans W;simp at this;exact he this.2
 have X:∀k,E.ownBlock=Z k->k<b.heap.size:=fun k hk=>(x.lt k hk).2;have Ba:L≠G:=(by rintro rfl;have:=h.lb.symm.trans h.gb;simp at this);have l8:=(fr L (J h.lb) (q h.lb (by decide))).trans h.lb;have s:=(fr G (J h.gb) (q h.gb (by decide))).trans h.gb;have ad:=bO.add J3 (w:=b) (w1:=b.alloc (M #[A I t.1,A I (t.2.1:Int),H (ba t.2.2)] 81)) (css:=css) X P (fun i f j=>R i f j) ⟨rfl,N⟩ K S p (by rw[T];exact y);refine⟨(dL _ _ _ _ Ba).trans l8,by simp[World.setCell,Array.getElem?_modify,s],?_,?_⟩
 ·obtain⟨F,m,u,n⟩:=h.lo.ex;have Rl:w8.ownsRow B 48 7 lv xs.length F.flatten:=by
   refine⟨m.1,?_⟩;rcases m.2 with l |⟨g,z,C,h1,h2,v,h4⟩
   ·exact .inl l
   ·exact .inr ⟨g,z,C,h1,h2,(fr g (J v) (q v (by decide))).trans v,h4⟩
  refine⟨F,Na Rl s (by decide),u,fun i f j=>⟨(n i f j).1,fun o=> ?_⟩⟩
  have t1:=aS.mono (S':=fun a=>(SB B lv a∧a≠L∧a≠G∧Z a≠sE.ownBlock)∧a<b.heap.size∧Z a≠E.ownBlock) ((n i f j).2 o) fun a d hl=>⟨⟨d.1,d.2.1,d.2.2.1,by
   rcases y with l | l
   ·rw[l];exact d.2.2.2
   ·rw[l];simp;omega⟩,hl,d.2.2.2⟩
  refine(t1.keeps ⟨?_,fun a d _=> ?_⟩).mono fun a d _=>d.1
  ·have:=p.size;simp[World.setCell];omega
  ·rw[dL _ _ _ _ d.1.2.2.1];exact fr a d.2.1 d.2.2
 ·obtain⟨LA,m,u,n⟩:=ad.ex;exact⟨LA,Na m s (by decide),u,fun i f j=>n i f j⟩
theorem anq {c0:Int}{i:Av}(m:Tx w V e ts v k0 c0 p0 Aw Ay)(hf:I9 w wr V e ts v bl al R L G [] y [] k c p)(n:aY R->aS wr (fun b=>w.heap.size+1<=b) y [A I z0,A I z1,A I z2,A I z3,H z4,O d m5 d5,O z C d6])(o:i[2]? =Z (aB (Z (Y w.heap.size 0 U)))):
 bodyPost prog f105 (zR w V e ts v bl al R (VE w.heap.size) JE) .ret {tmps:=i,defers:=[]} (tI wr w.heap.size (A I z0) (A I z1) (A I z2) (A I z3) (H z4) (O d m5 d5) (O z C d6)):=by
 obtain⟨h,a⟩:=nm (tI wr w.heap.size (A I z0) (A I z1) (A I z2) (A I z3) (H z4) (O d m5 d5) (O z C d6));have j:=hf.res;unfold ZE at j;have hn:h.heap[w.heap.size]? =Z (M #[A I z0,A I z1,A I z2,A I z3,H z4,O d m5 d5,O z C d6] 48):=(by rw[a];exact Ls j _ _ _ _ _ _ _);have f:Below w.heap.size wr h:=(by rw[a];exact LG (aF _ _) (aD _) _ _ _ _ _ _ _);have r:wr.grownBy h (Z w.heap.size):=(by rw[a];exact ET);obtain⟨s,t,u,x,B,E,F⟩:=Tq hn;rw[<-a];refine bodyPost_ret (v:=.agg #[A I z0,A I z1,A I z2,A I z3,H z4,O d m5 d5,O z C d6]) (by simp[results,results105,go_sem,o,s,t,u,x,B,E,F]) rfl ⟨mh hf.gr f,?_⟩;have l:=m.past hf.gr hf.tx f;rcases hf.on with⟨rfl,g⟩|⟨K,rfl,q,rfl,g⟩
 ·refine .inl ⟨y,k,p,_,g,rfl,⟨_,_,_,_,_,_,_,_,_,_,_,rfl,?_⟩,l⟩;exact((n ⟨_,_,g⟩).keeps (aP.bP r fun b f=>by simp;omega)).mono fun b f _=>by omega
 ·exact .inr ⟨c,q,_,g,rfl,⟨_,_,_,_,_,_,_,_,_,_,_,rfl⟩,K,l⟩
structure Gq (w':au)(tb e:Nat)(ts:List Tok)(v:aw)(bl al:Int)(P:List Tok->aA Tr)(R:aA Tr)(xs:List Tr)(ss:List Tok)(k1 B:Nat)(zs:Lv)(a:Tr)(k:Nat)(c p:Int):Prop where
 gt:k1<k
 tx:Tx w' tb e ts v k c p bl al
 tr:aY R->aS w' (fun b=>B<=b) a zs
 on:(c=0/\ag.zS P R (ag.jn xs ss) a (ts.drop k))\/(c≠0/\k=ts.length/\∃q:Nat,p=(q:Int)/\R=.no c q)
theorem abt (l:ag.du P)(f:ag.zS P R (ag.jn xs Q) x (ts.drop F))(h:F<ts.length)(m:t=nx (ts.drop F))(i:0<ag.dW t.2.2)(n:ag.ko (ag.jn xs Q) x (ag.dh t)=(ag.jn X us,y))(r:X.length=us.length)
 (s:(∃a k p,P (ts.drop (F+1))=.ok a (ts.drop k)/\od w' (fun b=>B<=b) a zs/\Tx w' V e ts v k 0 p bl al)\/(∃c q,P (ts.drop (F+1))=.no c q/\c≠0/\Tx w' V e ts v ts.length c (q:Int) bl al)):∃a k c p,Gq w' V e ts v bl al P R (X++[y]) (us++[t]) F B zs a k c p:=by
 have u:ts.drop F=t::ts.drop (F+1):=(by rw[m,G4 h];exact List.drop_eq_getElem_cons h);rw[u] at f;rcases s with⟨a,k,p,d,j,g⟩|⟨c,q,d,j,g⟩
 ·have z:=g.le;have w:=(l _ _ _ d).length_le;simp only[List.length_drop] at w;refine⟨a,k,0,p,by omega,g,fun _=>j,.inl ⟨rfl,?_⟩⟩;have:=ag.abJ f i d;rw[n] at this;rw[ag.QH r];exact this
 ·exact⟨JF,ts.length,c,q,h,g,fun o=>(o.no (ag.TG f i d)).elim,.inr ⟨j,rfl,q,rfl,ag.TG f i d⟩⟩
theorem Gq.later {a:Tr}(h:Gq w V e ts v bl al P R xs Q F B zs a k c p)(b:Bl w w'):Gq w' V e ts v bl al P R xs Q F B zs a k c p:=
 ⟨h.gt,h.tx.later b,fun o=>(h.tr o).keeps (aP.bm b),h.on⟩
theorem abw {mt b:au}{a:Tr}{c0:Int}{f o:Nat}{css:List (Lv)}{y0 y1 y2 y3 y4 y5 y6:aw}(s:Tx w V e ts v k0 c0 p0 Aw Ay)(BM:w.heap.size<L)(q:w.grownBy mt (Z V))(u:mt.heap[w.heap.size]? =Z (M ZE 48))(n:lE (aY R) mt (w.heap.size+1) L G lv E (X++[y]) (us++[t]))(m:mt.grownBy b (Z V))(hn:Gq b V e ts v bl al P R (X++[y]) (us++[t]) F mt.heap.size [A I z0,A I z1,A I z2,A I z3,H z4,O d m5 d5,O z C d6] a k c p)(K:X.length=us.length)(KG:us.length<=F)
 (N:lE (aY R) b (w.heap.size+1) L G lv E (X++[y]) (us++[t])) (Q:css.length=(X++[y]).length) (x:b.ownsRow (w.heap.size+1) 48 7 lv (X++[y]).length css.flatten) (S:∀i (h:i<(X++[y]).length) (h':i<css.length),uX (aY R) L G E b (SB (w.heap.size+1) lv) (X++[y])[i] css[i])
 (T:w8.ownsRow (w.heap.size+1) 48 7 (O (Z (Y f 0 U)) ((X++[y]).length+1) o) ((X++[y]).length+1) (css.flatten++[y0,y1,y2,y3,y4,y5,y6])) (W:b.grownBy w8 lv.ownBlock) (eQ:lv.ownBlock=Z f\/f=b.heap.size):
 L≠f/\zN w ((zY w8 f ((X++[y]).length*7) (A I z0) (A I z1) (A I z2) (A I z3) (H z4) (O d m5 d5) (O z C d6)).setCell (Y L 0 U) (O (Z (Y f 0 U)) ((X++[y]).length+1) o)) V e ts v bl al P R L G (X++[y]) a (us++[t]) k c p:=by
 have aK:=s.lt;have ct:=q.size;have jO:=J u;obtain⟨LA,q1,q2,q3⟩:=n.go.ex;obtain⟨Lz,q4,q5,q6⟩:=n.lo.ex;obtain⟨nL,B,l⟩:=ahD N (by omega) (J n.lb) (J n.gb) m.size (fun r g=>(q4.lt r g).2) (fun r g=>(q1.lt r g).2) Q x S hn.tr T W eQ;refine⟨nL,?_⟩;obtain⟨wg,NR⟩:=nm (zY w8 f ((X++[y]).length*7) (A I z0) (A I z1) (A I z2) (A I z3) (H z4) (O d m5 d5) (O z C d6));rw[<-NR] at B l⊢;have hz:=m.size;have g:Below (w.heap.size+1) b (wg.setCell (Y L 0 U) (O (Z (Y f 0 U)) ((X++[y]).length+1) o)):=(by refine Below.setCell ⟨l.os,l.tape,l.output,l.size,fun j hj=>l.block j (by omega) fun hq=> ?_⟩ (by show w.heap.size+1<=L;omega) _;have:=(x.lt j hq.symm).1;omega);have oh:=(m.block _ jO (by simp;omega)).trans u;refine⟨mh (q.trans m) (g.mono (by omega)),(g.block _ (by omega)).trans oh,⟨_,_,B⟩,by simp[K],?_,s.past (q.trans m) hn.tx (g.mono (by omega)),aK,hn.on⟩;have:=hn.gt;simp;omega
theorem O1 {a:Nat}{b:List Tok}{k':Nat}{c' p' d f:Int}(h:Tx w V e ts v k c p bl al)(g:Tx w' V a b v' k' c' p' d f)(i:ts.length - k<ts.length - k'):ts.length - CN w V<ts.length - CN w' V:=by
 rw[h.CN,g.CN];exact i
theorem abr (gM:ag.Good ts)(gK:qx ts)(N6:ag.du P)(hP:zv V e ts v bl al P):zO V e ts v bl al (ag.bd P 5):=by
 intro w k p h;have aK:=h.lt;have lO:∀(fn:Fn) (first af:Av) (w:au),(Instr.makeFunc fn first af).run prog w=.ok (.func fn first af) w:=fun _ _ _ _=>rfl;obtain⟨R,hR⟩:=nm (ag.bd P 5 (ts.drop k));rw[<-hR];obtain⟨wa,jc⟩:=nm (w.alloc (M ZE 48));have bD:=eS jc;have Bh:wa.heap.size=w.heap.size+1:=(by rw[jc];exact Array.size_push _);have cr:=aa jc;have ay:=hP wa k p (h.later bD);have ai:=am h;have HP:=am hP;have dK:=am gM;have jH:=am gK;have PJ:=am N6;have HR:=am hR;have Gl:=am bD;have aX:=am cr;unfold ZE at jc;clear h hP gM gK N6 hR bD cr;go_enter func105,ntmps105;go_wp2_with fail;rw[<-jc];clear jc;refine ay.mono ?_;intro x w1 C0;obtain⟨aZ,z0,z1,z2,z3,z4,d,m5,d5,z,C,d6,rfl,gH⟩:=Ir C0;have eY:=aZ.size;obtain⟨wb,f8⟩:=nm (((w1.alloc (M #[A I z0,A I z1,A I z2,A I z3,H z4,O d m5 d5,O z C d6] 48)).alloc (M #[O (Z (Y w1.heap.size 0 U)) 1 1] 46)).alloc (M #[O U 0 0] 72));have HS:ah (∃xs x Q k c p,zN w wb V e ts v bl al P R (w1.heap.size+1) (w1.heap.size+1+1) xs x Q k c p):=by
  have Oy:=World.grownBy.trans ⟨Gl.os,Gl.tape,Gl.output,Gl.size,fun j hj _=>Gl.block j hj⟩ aZ;have db:=(aZ.block _ (by omega) (by simp;omega)).trans aX;rcases gH with⟨a,k2,p2,h1,h2,h3⟩|⟨c,q,h1,h2,h3⟩
  ·refine⟨[],a,[],k2,0,p2,abv (x:=a) aK Oy (by omega) db h3 f8 (fun _=>aS.mono h2 fun ar hb _=>by omega) ?_⟩;refine .inl ⟨rfl,?_⟩;rw[HR.out];exact ag.aot PJ h1
  ·have iS:R=.no c q:=(by rw[HR.out];exact ag.aos PJ h1);exact⟨[],JF,[],ts.length,c,(q:Int),abv (x:=JF) aK Oy (by omega) db h3 f8 (fun o=>(o.no iS).elim) (.inr ⟨h2,rfl,q,rfl,iS⟩)⟩
 clear gH C0 aZ ay;go_wp2_with fail;rw[<-f8];clear f8;obtain⟨L,hL⟩:=nm (w1.heap.size+1);obtain⟨G,hG⟩:=nm (w1.heap.size+1+1);rw[<-hG,<-hL] at HS⊢;have BM:w.heap.size<L:=(by omega);have yX:w.heap.size<G:=(by omega);clear hL hG eY Bh;go_loopw [] (fun wr=>ah (∃xs x Q k c p,zN w wr V e ts v bl al P R L G xs x Q k c p)) (fun wr=>ts.length - CN wr V);case atStart=>exact HS
 case round=>
  obtain⟨xs,x,Q,F,c1,p1,hi⟩:=hrel.out;have HI:=am hi;obtain⟨t,ht⟩:=nm (nx (ts.drop F));have jx:=peekD hi.tx;rw[<-ht] at jx;have sg:=am ht;have zy:ah ((ba t.2.2).size<=maxLen):=(by show _<=_;rw[ht];exact jH.nx F);have LX:ah (t.1≠4->ag.dW t.2.2=0):=by
   show _->_;intro h4;by_cases hk:F<ts.length
   ·rw[ht,G4 hk] at h4⊢;exact ag.ajs (dK.out _ (List.getElem_mem hk)) h4
   ·rw[ht,A9 (by omega)];exact ag.JP
  clear hi ht hrel HS;unfold AY at jx;go_wp2_with fail;refine jx.mono ?_;rintro x2 w2 ⟨rfl,aH⟩;obtain⟨wt,nu⟩:=nm (w2.alloc (M #[A I t.1,A I (t.2.1:Int),H (ba t.2.2)] 81));have qr:=eS nu;have Vz:=am ((HI.step aH BM yX).step qr BM yX);have Vv:=am (aa nu);have dD:=am (bu aH qr);go_upto_region 5 with fail
  rw[<-nu];clear nu aH jx qr;obtain⟨⟨k0,NE,k2⟩,_⟩:=ox Vv;have lk:=J Vv
  go_cut [21] (fun a7 wc=>a7=az (decide (ag.dW t.2.2=0))/\ah (Bl wt wc))
  case first=>
   by_cases c4:t.1=4
   ·have b4:(t.1 !=4)=ak:=(by simp[c4]);have er:=RI (ba t.2.2) zy wt;rw[fB] at er;go_wp2_with (go_at_call 152;refine er.mono ?_;rintro x3 w3 ⟨rfl,aT⟩);go_meet;case rel=>
     refine⟨?_,aT⟩
     congr 1
     exact apI _
   ·have b4:(t.1 !=4)=ap:=(by simp[c4]);go_wp2;go_meet;case rel=>
     refine⟨?_,aF _ _⟩;rw[LX.out c4];rfl
  case rest=>
   obtain⟨rfl,iW⟩:=hcut;have tv:=am (Vz.step iW BM yX);have Vw:=am ((iW.block _ lk).trans Vv);have Yy:=J Vw;clear k0 NE k2 iW lk;by_cases je:ag.dW t.2.2=0
   ·have a8:=am (ano tv (by rw[<-sg.out];exact je));have KJ:decide (ag.dW t.2.2=0)=ap:=(by simp[je]);rw[KJ];clear KJ je tv;go_wp2_with fail;go_loopw [] (fun wf=>ah (∃xs x Q,I9 w wf V e ts v bl al R L G xs x Q F c1 p1)) (fun wf=>vL wf G);case atStart=>exact⟨xs,x,Q,a8.out⟩
    case round=>
     obtain⟨X,y,us,hf⟩:=hrel.out;obtain⟨lv,E,hs⟩:=hf.jn;have HF:=am hf;obtain⟨ao,cp,rfl⟩:=hs.go.slice;have g0:=cl hs.gb 0 rfl;have AF:=am hs;have lG:=J hs.gb;have ae:=hf.len;clear hf hs hrel;by_cases hu:us=[]
     ·subst hu;have bb:=List.length_eq_zero_iff.1 (by simpa using ae);subst bb;clear ae;simp only[List.length_nil] at g0;obtain⟨av,o1,o2,o3⟩:=AF.lo.ex;obtain⟨g,af,bc,hv,b1,yQ,An,KN,gH,xq⟩:=EG o1 (by simp);subst hv;have vF:∀i (h:i<av.length),av[i].length=7:=fun i hi=>(CO _ L G _).len (o3 i (by omega) hi);have ho:=o3 0 (by simp) (by rw[o2];simp);obtain⟨⟨z0,z1,z2,z3,z4,d,m5,d5,z,C,d6,eD⟩,il⟩:=ho;rw[eD] at il;have ax:∀j ad,(av[0]'(by rw[o2];simp))[j]? =Z ad->wr.cell? (Y g (0*7+j) U)=Z ad:=fun j ad hu=>EH (n:=([]++[y]).length) yQ xq o2 vF (by rw[o2];simp) hu;rw[eD] at ax;have e0:=ax 0 _ rfl;have e1:=ax 1 _ rfl;have e2:=ax 2 _ rfl;have e3:=ax 3 _ rfl;have e4:=ax 4 _ rfl;have e5:=ax 5 _ rfl;have e6:=ax 6 _ rfl;have l0:wr.cell? (Y L 0 U)=Z (O (Z (Y g 0 U)) 1 af):=(by have b:=AF.lb;simp[aN,b]);have IQ:ah (aY R->aS wr (fun ar=>w.heap.size+1<=ar) y [A I z0,A I z1,A I z2,A I z3,H z4,O d m5 d5,O z C d6]):=fun o=>aS.mono (il o) fun ar hb _=>hb.1.1;have hr:=HF.res;have ln:=J hr;unfold ZE at hr;obtain⟨⟨q0,q1,q2,q3,q4,q5,q6⟩,p0,b2,p2,p3,p4,p5,p6⟩:=fa hr;have lL:=J AF.lb;have lg:=J yQ;have pF:w.heap.size≠g:=(by omega);clear hr o1 o2 o3 vF ax eD il yQ An KN gH xq;go_wp2;exact anq ai HF IQ rfl
     ·obtain⟨u,s,rfl⟩:=EQ hu;obtain⟨Cq,o,rfl⟩:=EQ (l:=X) (by rintro rfl;simp at ae);have cW:lE (aY R) wr (w.heap.size+1) L G lv (O ao (u++[s]).length cp) (Cq++[o,y]) (u++[s]):=(by have b:=AF.out;rwa [List.append_assoc] at b);have KG:=HF.jZ;have Sj:Cq.length=u.length:=(by simpa using ae);have BC:u.length<=100000:=(by simp at KG;omega);have Kj:=Xr (by have:=HF.gr.size;have:=J HF.res;omega) cW (by omega) BC;have hd:decide ((0:Int)<((u++[s]).length:Int))=ap:=(by simp);have HM:ah (vL wr G=u.length+1):=(by show _=_;rw[AF.vL];simp);clear cW KG hu ae Sj BC;go_wp2_with fail;refine Kj.mono ?_;rintro r N ⟨rfl,Kp,rH,sE,iR⟩;have HN:ah (I9 w N V e ts v bl al R L G Cq (ag.eK s [o,y]) u F c1 p1):=ann ai BM yX HF Kp iR;have Vn:ah (vL N G=u.length):=iR.vL;clear Kp iR Kj g0 lG;go_wp2;exact⟨⟨_,_,_,HN.out⟩,by rw[Vn.out,HM.out];omega⟩
   ·have dc:F<ts.length:=(by apply Classical.byContradiction;intro bh;apply je;rw[sg.out,A9 (by omega)];exact ag.JP);have Ml:ah (F<ts.length):=dc;have ey:ah (0<ag.dW t.2.2):=(by show 0<_;omega);have KJ:decide (ag.dW t.2.2=0)=ak:=(by simp[je]);rw[KJ];obtain⟨K,m⟩:∃K,K=w2.heap.size:=⟨_,rfl⟩;rw[<-m] at Vw Yy⊢;have be:ah (ya w wc V e ts v bl al R L G K t (ag.ko (ag.jn xs Q) x (ag.dh t)) xs x Q F c1 p1):=anl tv Vw dc;clear KJ je dc m Yy;go_wp2_with fail;go_loopw [] (fun wl=>ah (∃bf x' bg,ya w wl V e ts v bl al R L G K t (ag.ko (ag.jn xs Q) x (ag.dh t)) bf x' bg F c1 p1)) (fun wl=>vL wl G);case atStart=>exact⟨xs,x,Q,be.out⟩
    case round=>
     obtain⟨X,y,us,hf⟩:=hrel.out;obtain⟨lv,E,hs⟩:=hf.jn;have HF:ah (ya w wr V e ts v bl al R L G K t (ag.ko (ag.jn xs Q) x (ag.dh t)) X y us F c1 p1):=hf;obtain⟨ao,cp,rfl⟩:=hs.go.slice;have AF:ah (lE (aY R) wr (w.heap.size+1) L G lv (O ao us.length cp) (X++[y]) us):=hs;have xV:ah (∀w',Bl wr w'->w'.cell? (Y G 0 U)=Z (O ao us.length cp)):=(by intro w' hb;have b:=(hb.block _ (J AF.gb)).trans AF.gb;simp[aN,b]);have Gf:ah (∀w',Bl wr w'->w'.cell? (Y K 2 U)=Z (H (ba t.2.2))):=(by intro w' hb;have b:=(hb.block _ (J HF.tok)).trans HF.tok;simp[aN,b]);clear hf hs hrel;go_upto_region 6 with fail
     go_cut [38] (fun bi wc=>bi=az (Er us (ag.dh t))/\ah (Bl wr wc))
     case first=>
      by_cases hu:us=[]
      ·subst hu;clear HF;simp only[List.length_nil] at xV⊢;refine wp_region_held_drew (S:=fun w'=>Bl wr w') (by kernel_rfl) (Dt (aF _ _)) (fun B=> ?_);refine cK (i:=0) 22 (v:=O ao 0 cp) rfl rfl (by kernel_rfl) (by kernel_rfl) (by kernel_rfl) (fun _ _ _ h=>h) (Or.inl ⟨by rfl,fun W' f=>by have hl:=xV.out W' f;clear f;go_simp⟩) B ?_;simp only[aU,bJ,bN,bM];refine cK (i:=1) 23 (v:=A I 0) rfl rfl (by kernel_rfl) (by kernel_rfl) (by kernel_rfl) (fun _ _ _ h=>h) (Or.inl ⟨by rfl,fun W' f=>by clear f;go_simp⟩) B ?_;simp only[aU,bJ,bN,bM];refine cK (i:=2) 24 (v:=az ak) rfl rfl (by kernel_rfl) (by kernel_rfl) (by kernel_rfl) (fun _ _ _ h=>h) (Or.inl ⟨by rfl,fun W' f=>by clear f;go_simp⟩) B ?_;simp only[aU,bJ,bN,bM];refine cK (i:=3) 25 (v:=az ak) rfl rfl (by kernel_rfl) (by kernel_rfl) (by kernel_rfl) (fun _ _ _ h=>h) (Or.inl ⟨by rfl,fun W' f=>by clear f;go_simp⟩) B ?_;simp only[aU,bJ,bN,bM];refine cK (i:=4) 26 (v:=undef) rfl rfl (by kernel_rfl) (by kernel_rfl) (by kernel_rfl) (fun _ _ _ h=>h) (Or.inr ⟨by simp[Region.wanted,yielded],rfl⟩) B ?_;simp only[aU,bJ,bN,bM];refine cK (i:=5) 27 (v:=undef) rfl rfl (by kernel_rfl) (by kernel_rfl) (by kernel_rfl) (fun _ _ _ h=>h) (Or.inr ⟨by simp[Region.wanted,yielded],rfl⟩) B ?_;simp only[aU,bJ,bN,bM];refine cK (i:=6) 28 (v:=undef) rfl rfl (by kernel_rfl) (by kernel_rfl) (by kernel_rfl) (fun _ _ _ h=>h) (Or.inr ⟨by simp[Region.wanted,yielded],rfl⟩) B ?_;simp only[aU,bJ,bN,bM];refine cK (i:=7) 29 (v:=undef) rfl rfl (by kernel_rfl) (by kernel_rfl) (by kernel_rfl) (fun _ _ _ h=>h) (Or.inr ⟨by simp[Region.wanted,yielded],rfl⟩) B ?_;simp only[aU,bJ,bN,bM];refine cK (i:=8) 30 (v:=undef) rfl rfl (by kernel_rfl) (by kernel_rfl) (by kernel_rfl) (fun _ _ _ h=>h) (Or.inr ⟨by simp[Region.wanted,yielded],rfl⟩) B ?_;simp only[aU,bJ,bN,bM]
       refine cK (i:=9) 31 (v:=undef) rfl rfl (by kernel_rfl) (by kernel_rfl) (by kernel_rfl) (fun _ _ _ h=>h) (Or.inr ⟨by simp[Region.wanted,yielded],rfl⟩) B ?_;simp only[aU,bJ,bN,bM];refine cK (i:=10) 32 (v:=undef) rfl rfl (by kernel_rfl) (by kernel_rfl) (by kernel_rfl) (fun _ _ _ h=>h) (Or.inr ⟨by simp[Region.wanted,yielded],rfl⟩) B ?_;simp only[aU,bJ,bN,bM];refine cK (i:=11) 33 (v:=undef) rfl rfl (by kernel_rfl) (by kernel_rfl) (by kernel_rfl) (fun _ _ _ h=>h) (Or.inr ⟨by simp[Region.wanted,yielded],rfl⟩) B ?_;simp only[aU,bJ,bN,bM];refine cK (i:=12) 34 (v:=undef) rfl rfl (by kernel_rfl) (by kernel_rfl) (by kernel_rfl) (fun _ _ _ h=>h) (Or.inr ⟨by simp[Region.wanted,yielded],rfl⟩) B ?_;simp only[aU,bJ,bN,bM];refine cK (i:=13) 35 (v:=undef) rfl rfl (by kernel_rfl) (by kernel_rfl) (by kernel_rfl) (fun _ _ _ h=>h) (Or.inr ⟨by simp[Region.wanted,yielded],rfl⟩) B ?_;simp only[aU,bJ,bN,bM];refine cK (i:=14) 36 (v:=undef) rfl rfl (by kernel_rfl) (by kernel_rfl) (by kernel_rfl) (fun _ _ _ h=>h) (Or.inr ⟨by simp[Region.wanted,yielded],rfl⟩) B ?_;simp only[aU,bJ,bN,bM];refine cK (i:=15) 37 (v:=undef) rfl rfl (by kernel_rfl) (by kernel_rfl) (by kernel_rfl) (fun _ _ _ h=>h) (Or.inr ⟨by simp[Region.wanted,yielded],rfl⟩) B ?_;simp only[aU,bJ,bN,bM];refine cK (i:=16) 38 (v:=az ak) rfl rfl (by kernel_rfl) (by kernel_rfl) (by kernel_rfl) (fun _ _ _ h=>h) (Or.inl ⟨by rfl,fun W' f=>by clear f;go_simp⟩) B ?_;simp only[aU,bJ,bN,bM];refine wpAnyH_done (by kernel_rfl) ?_ _;go_wp2_with fail;go_meet;exact⟨rfl,B⟩
      ·obtain⟨u,s,rfl⟩:=EQ hu;have YM:(u++[s]).length=u.length+1:=(by simp);obtain⟨rX,q1,q2,q3⟩:=AF.go.ex;obtain⟨gq,LE,b3,E8,bj,So,bk,bn,bo,ZM⟩:=EG q1 (by simp);have hq:ao=Z (Y gq 0 U)/\cp=LE:=(by simp only[Value.slice.injEq] at E8;exact⟨E8.1,E8.2.2⟩);obtain⟨rfl,rfl⟩:=hq;have qZ:∀i (h:i<rX.length),rX[i].length=3:=fun i hi=>J3.len (q3 i (by omega) hi);have Dc:=q3 u.length (by simp) (by rw[q2];simp);have aG:rX[u.length]'(by rw[q2];simp)=[A I s.1,A I (s.2.1:Int),H (ba s.2.2)]:=(by simpa using Dc.1);have oC:ah ((ba s.2.2).size<=maxLen):=(by show _<=_;have b:=Dc.2;simpa using b);have fK:ah (∀w',Bl wr w'->w'.cell? (Y gq (u.length*3+2) U)=Z (H (ba s.2.2))):=(by intro w' hb;exact EH (n:=(u++[s]).length) ((hb.block _ (J So)).trans So) ZM q2 qZ (by rw[q2];simp) (by rw[aG];rfl));have b7:u.length<=100000:=(by have h8:=HF.jZ;have b:=HF.tx.le;have Di:=HF.tx.jZ;omega);have Mi:ah (∀w',Bl wr w'->∀ad:Tok,(ba ad.2.2).size<=maxLen->aC prog 152 #[H (ba ad.2.2)] w' fun x ek=>x=aE (A I (ag.dW ad.2.2:Int))/\Bl wr ek):=(by intro w' hb ad bp;refine(RI _ bp w').mono ?_;rintro x9 N ⟨rfl,fI⟩;rw[fB];exact⟨rfl,hb.trans (fI.mono hb.size)⟩)
       have ZA:IntKind.i64.wrap (u.length:Int)=(u.length:Int):=(by rw[IntKind.wrap_i64];omega);have b8:IntKind.i64.wrap ((u.length:Int)+1 - 1)=(u.length:Int):=(by rw[IntKind.wrap_i64];omega);have KQ:¬((u.length:Int)+1<=(u.length:Int)):=(by omega);have OC:¬((u.length:Int)<0):=(by omega);have b9:decide ((0:Int)<(u.length:Int)+1)=ap:=decide_eq_true (by omega);rw[YM] at xV;clear HF q1 q2 q3 E8 bj So bk bn bo ZM qZ Dc aG hu YM;refine wp_region_held_drew (S:=fun w'=>Bl wr w') (by kernel_rfl) (Dt (aF _ _)) (fun B=> ?_);refine cK (i:=0) 22 (v:=O (Z (Y gq 0 U)) (u.length+1) cp) rfl rfl (by kernel_rfl) (by kernel_rfl) (by kernel_rfl) (fun _ _ _ h=>h) (Or.inl ⟨by rfl,fun W' f=>by have hl:=xV.out W' f;clear f;go_simp⟩) B ?_;simp only[aU,bJ,bN,bM];refine cK (i:=1) 23 (v:=A I ((u.length:Int)+1)) rfl rfl (by kernel_rfl) (by kernel_rfl) (by kernel_rfl) (fun _ _ _ h=>h) (Or.inl ⟨by rfl,fun W' f=>by clear f;go_simp⟩) B ?_;simp only[aU,bJ,bN,bM];refine cK (i:=2) 24 (v:=az ap) rfl rfl (by kernel_rfl) (by kernel_rfl) (by kernel_rfl) (fun _ _ _ h=>h) (Or.inl ⟨by rfl,fun W' f=>by clear f;go_simp⟩) B ?_;simp only[aU,bJ,bN,bM];refine cK (i:=3) 25 (v:=az ap) rfl rfl (by kernel_rfl) (by kernel_rfl) (by kernel_rfl) (fun _ _ _ h=>h) (Or.inl ⟨by rfl,fun W' f=>by clear f;go_simp⟩) B ?_;simp only[aU,bJ,bN,bM];refine cK (i:=4) 26 (v:=O (Z (Y gq 0 U)) (u.length+1) cp) rfl rfl (by kernel_rfl) (by kernel_rfl) (by kernel_rfl) (fun _ _ _ h=>h) (Or.inl ⟨by simp[Region.wanted,yielded],fun W' f=>by have hl:=xV.out W' f;clear f;go_simp⟩) B ?_;simp only[aU,bJ,bN,bM];refine cK (i:=5) 27 (v:=O (Z (Y gq 0 U)) (u.length+1) cp) rfl rfl (by kernel_rfl) (by kernel_rfl) (by kernel_rfl) (fun _ _ _ h=>h) (Or.inl ⟨by simp[Region.wanted,yielded],fun W' f=>by have hl:=xV.out W' f;clear f;go_simp⟩) B ?_;simp only[aU,bJ,bN,bM]
       refine cK (i:=6) 28 (v:=A I ((u.length:Int)+1)) rfl rfl (by kernel_rfl) (by kernel_rfl) (by kernel_rfl) (fun _ _ _ h=>h) (Or.inl ⟨by simp[Region.wanted,yielded],fun W' f=>by clear f;go_simp⟩) B ?_;simp only[aU,bJ,bN,bM];refine cK (i:=7) 29 (v:=A I (u.length:Int)) rfl rfl (by kernel_rfl) (by kernel_rfl) (by kernel_rfl) (fun _ _ _ h=>h) (Or.inl ⟨by simp[Region.wanted,yielded],fun W' f=>by clear f;go_simp⟩) B ?_;simp only[aU,bJ,bN,bM];refine cK (i:=8) 30 (v:=aB (Z (Y gq (u.length*3) U))) rfl rfl (by kernel_rfl) (by kernel_rfl) (by kernel_rfl) (fun _ _ _ h=>h) (Or.inl ⟨by simp[Region.wanted,yielded],fun W' f=>by clear f;go_simp⟩) B ?_;simp only[aU,bJ,bN,bM];refine cK (i:=9) 31 (v:=aB (Z (Y gq (u.length*3+2) U))) rfl rfl (by kernel_rfl) (by kernel_rfl) (by kernel_rfl) (fun _ _ _ h=>h) (Or.inl ⟨by simp[Region.wanted,yielded],fun W' f=>by clear f;go_simp⟩) B ?_;simp only[aU,bJ,bN,bM];refine cK (i:=10) 32 (v:=H (ba s.2.2)) rfl rfl (by kernel_rfl) (by kernel_rfl) (by kernel_rfl) (fun _ _ _ h=>h) (Or.inl ⟨by simp[Region.wanted,yielded],fun W' f=>by have hl:=fK.out W' f;clear f;go_simp⟩) B ?_;simp only[aU,bJ,bN,bM];refine cK (i:=12) 34 (v:=aB (Z (Y K 2 U))) rfl rfl (by kernel_rfl) (by kernel_rfl) (by kernel_rfl) (fun _ _ _ h=>h) (Or.inl ⟨by simp[Region.wanted,yielded],fun W' f=>by clear f;go_simp⟩) B ?_;simp only[aU,bJ,bN,bM];refine cK (i:=13) 35 (v:=H (ba t.2.2)) rfl rfl (by kernel_rfl) (by kernel_rfl) (by kernel_rfl) (fun _ _ _ h=>h) (Or.inl ⟨by simp[Region.wanted,yielded],fun W' f=>by have hl:=Gf.out W' f;clear f;go_simp⟩) B ?_;simp only[aU,bJ,bN,bM];have aI:=Mi.out;refine wpAnyH_ready (rs:=[11]) (by kernel_rfl) (by simp) ?_;refine AllReadyH.cons rfl (fun W Lc=> ?_) AllReadyH.nil
       ·go_simp;go_at_call 152;refine(aI _ B s oC).mono ?_;rintro x9 N ⟨rfl,fI⟩;refine Lc.out _ _ fI (fun _=> ?_);clear Lc W;try simp only[aU,bJ,bN,bM]
        refine wpAnyH_ready (rs:=[14]) (by kernel_rfl) (by simp) ?_;refine AllReadyH.cons rfl (fun W Lc=> ?_) AllReadyH.nil;go_simp;go_at_call 152;refine(aI _ fI t zy).mono ?_;rintro x8 w8 ⟨rfl,mF⟩;refine Lc.out _ _ mF (fun _=> ?_);clear Lc W;try simp only[aU,bJ,bN,bM]
        refine cK (i:=15) 37 (v:=az (decide ((ag.dW t.2.2:Int)<=(ag.dW s.2.2:Int)))) rfl rfl (by kernel_rfl) (by kernel_rfl) (by kernel_rfl) (fun _ _ _ h=>h) (Or.inl ⟨by simp[Region.wanted,yielded],fun W' f=>by clear f;go_simp⟩) mF ?_;simp only[aU,bJ,bN,bM];refine cK (i:=16) 38 (v:=az (decide ((ag.dW t.2.2:Int)<=(ag.dW s.2.2:Int)))) rfl rfl (by kernel_rfl) (by kernel_rfl) (by kernel_rfl) (fun _ _ _ h=>h) (Or.inl ⟨by rfl,fun W' f=>by clear f;go_simp⟩) mF ?_;simp only[aU,bJ,bN,bM];refine wpAnyH_done (by kernel_rfl) ?_ _;go_wp2_with fail;go_meet;refine⟨?_,mF⟩;rw[Qy]
        congr 1
     case rest=>
      obtain⟨rfl,iW⟩:=hcut;have nJ:ah (ya w wc V e ts v bl al R L G K t (ag.ko (ag.jn xs Q) x (ag.dh t)) X y us F c1 p1):=HF.step iW BM yX;have bq:ah (vL wr G=us.length):=AF.vL;obtain⟨Nq,QC,iR⟩:=nJ.jn;have tn:ah (lE (aY R) wc (w.heap.size+1) L G Nq QC (X++[y]) us):=iR;clear iR HF iW;by_cases hb:Er us (ag.dh t)=ap
      ·rw[hb];obtain⟨u,s,rfl⟩:=EQ (l:=us) (by rintro rfl;simp[Er] at hb);have ae:=nJ.len;obtain⟨Cq,o,rfl⟩:=EQ (l:=X) (by rintro rfl;simp at ae);rw[Qy] at hb;have Vr:ah (ag.dh t<=ag.dh s):=(by show _<=_;exact of_decide_eq_true hb);have cW:lE (aY R) wc (w.heap.size+1) L G Nq QC (Cq++[o,y]) (u++[s]):=by
        have b:=tn.out;rwa [List.append_assoc] at b
       have Sj:Cq.length=u.length:=(by simpa using ae);have BC:u.length<=100000:=(by have h8:=nJ.jZ;have b:=nJ.tx.le;have Di:=nJ.tx.jZ;simp at h8;omega);have Kj:=Xr (by have:=nJ.gr.size;have:=J nJ.res;omega) cW (by omega) BC;clear cW ae Sj BC hb;go_wp2_with fail;refine Kj.mono ?_;rintro r N ⟨rfl,Kp,rH,sE,iR⟩;have HN:ah (ya w N V e ts v bl al R L G K t (ag.ko (ag.jn xs Q) x (ag.dh t)) Cq (ag.eK s [o,y]) u F c1 p1):=ank ai BM yX nJ Vr Kp iR;have Vn:ah (vL N G=u.length):=iR.vL;clear Kp iR Kj;go_wp2;exact⟨⟨_,_,_,HN.out⟩,by rw[Vn.out,bq.out];simp⟩
      ·have nA:Er us (ag.dh t)=ak:=(by simpa using hb);rw[nA];have HE:ah (ag.ko (ag.jn xs Q) x (ag.dh t)=(ag.jn X us,y)):=anm nJ nA;clear hb nA;have dc:=nJ.kl;obtain⟨pF,mz⟩:=nJ.tx.next dc;obtain⟨wn,cJ⟩:∃wn,wn=wc.setCell (Y V 1 U) (A I ((F:Int)+1)):=⟨_,rfl⟩;rw[<-cJ] at pF mz;have mU:F<=100000:=(by have b:=nJ.tx.le;have Di:=nJ.tx.jZ;omega);obtain⟨q0,q1,_⟩:=nJ.tx.cells;have zq:=nJ.tx.free 1;have Yt:=nJ.tx.lt;have Mq:ah (wc.grownBy wn (Z V)):=pF;have UK:ah (Tx wn V e ts v (F+1) c1 p1 bl al):=mz;have DH:ah (lE (aY R) wn (w.heap.size+1) L G Nq QC (X++[y]) us):=tn.grown pF (by omega) (by omega) (by omega);have aJ:ah (wn.heap[K]? =Z (M #[A I t.1,A I (t.2.1:Int),H (ba t.2.2)] 81)):=(by have b:=nJ.tok;refine(pF.block _ (J b) ?_).trans b;simp;rintro rfl;have:=nJ.tx.bE.symm.trans b;simp at this);clear pF mz dc;go_upto_region 9 with fail
       rw[<-cJ];clear cJ q0 q1 zq;obtain⟨LJ,LB,rfl⟩:=DH.go.slice;obtain⟨Pg,r1,r2,r3⟩:=DH.go.ex;have L6:ah (wn.ownsRow (w.heap.size+1) 81 3 (O LJ us.length LB) us.length Pg.flatten):=r1;have br:ah (Pg.length=us.length):=r2;have bs:ah (∀i (h:i<us.length) (h':i<Pg.length),P6 wn (SB (w.heap.size+1) (O LJ us.length LB)) us[i] Pg[i]):=r3;have g0:wn.cell? (Y G 0 U)=Z (O LJ us.length LB):=(by have b:=DH.gb;simp[aN,b]);obtain⟨⟨t0,t1,t2⟩,_⟩:=ox aJ;have ca:G<wn.heap.size:=J DH.gb;have cb:K<wn.heap.size:=J aJ;have KE:us.length<=100000:=(by have b:=nJ.jZ;omega);have bv:w.heap.size+1<=wn.heap.size:=(by omega);obtain⟨i0,gT,cL,bZ,bA⟩:=info_parts Tryz.RQ;clear r1 r2 r3;go_upto_region 10 with(at_builtin;refine wpList_append_own_at _ rfl _ _ 72 rfl (w.heap.size+1) 81 i0 (.agg #[A I 0,A I 0,H ⟨#[]⟩]) 3 32 underlying72 gT cL bZ bA rfl (by decide) _ _ _ rfl (World.ownsRow.alloc L6.out _) (Y wn.heap.size 0 U) 1 1 [A I t.1,A I (t.2.1:Int),H (ba t.2.2)] rfl rfl ?c1 ?c2 ?c3 ?c4 ?c5 ?_)
       case c1=>exact aij _ _
       case c2=>intro ad hu;simp only[fN,kD,or_false] at hu;rcases hu with rfl | rfl | rfl<;>rfl
       case c3=>unfold maxLen;omega
       case c4=>omega
       case c5=>simp;omega
       intro u' w8 li jf _ nW;obtain⟨rh,c8,Hk⟩:∃rh c8,u'=O rh (us.length+1) c8:=by
        rcases li.2 with⟨hv,h0⟩|⟨g,af,bc,rfl,_⟩
        ·exact⟨U,0,by rw[hv,h0]⟩
        ·exact⟨_,af,rfl⟩
       subst Hk;have DT:ah (lE (aY R) (w8.setCell (Y G 0 U) (O rh (us.length+1) c8)) (w.heap.size+1) L G Nq (O rh (us.length+1) c8) (X++[y]) (us++[t])):=aeW DH bv zy br L6 bs li jf (by simpa using nW);have Tg:w8.heap[G]? =Z (M #[O LJ us.length LB] 72):=by
        have b:=DH.gb;rw[jf.block G (by simp;omega) (JA L6.out b (by decide)),cR b]
       have bx:w8.cell? (Y G 0 U)=Z (O LJ us.length LB):=(by simp[aN,Tg]);have bz:w8.frozen? (Y G 0 U)=ak:=(by simp[World.frozen?,Tg]);have jX:Bl wn (wn.alloc (M #[A I t.1,A I (t.2.1:Int),H (ba t.2.2)] 81)):=(aF _ _).alloc (aD _) _;have mF:Below w.heap.size wn w8:=(jX.mono (by omega)).grown jf (by have:=jX.size;omega) (fun k hk=>by have:=(L6.lt k hk).1;omega);obtain⟨mt,NU⟩:=nm (w8.setCell (Y G 0 U) (O rh (us.length+1) c8));have SN:Below w.heap.size wn mt:=(by rw[NU];exact mF.setCell (by show w.heap.size<=G;omega) _);have aM:=am (mh (nJ.gr.trans Mq) SN);have UO:=am (ai.past (nJ.gr.trans Mq) UK SN);have aW:ah (mt.heap[w.heap.size]? =Z (M ZE 48)):=(by have b:=nJ.res;have h8:=(Mq.block _ (J b) (by simp;omega)).trans b;show _=_;rw[NU,dL _ _ _ _ (by show w.heap.size≠G;omega),jf.block _ (by simp;omega) (JA L6.out h8 (by decide)),cR h8]);clear li jf nW Tg jX mF SN;go_upto_region 10 with fail
       rw[<-NU] at DT⊢;clear NU g0 t0 t1 t2 bx bz;have eD:c1=0:=by
        rcases tv.on with⟨b,_⟩|⟨_,b,_⟩
        ·exact b
        ·have h8:=Ml.out;omega
       subst eD;have P2:ah (ag.zS P R (ag.jn xs Q) x (ts.drop F)):=by
        show ag.zS _ _ _ _ _;rcases tv.on with⟨_,b⟩|⟨b,_⟩
        ·exact b
        ·exact absurd rfl b
       have Mh:=am nJ.len;have KD:=nJ.jZ;obtain⟨oz,ov,rfl⟩:=DT.lo.slice;have rI:(X++[y]).length=X.length+1:=(by simp);have Mj:ah (mt.cell? (Y L 0 U)=Z (O oz (X.length+1) ov)):=(by have b:=DT.lb;rw[rI] at b;show _=_;simp[aN,b]);clear tv;have cc:X.length<=100000:=(by have b:=Mh.out;omega);have KQ:¬((X.length:Int)+1<=(X.length:Int)):=(by omega);have OC:(0:Int)<=(X.length:Int)+1:=(by omega);have J0:=J DT.lb;refine afI (T:=fun w'=>w'.cell? (Y L 0 U)=Z (O oz (X.length+1) ov)) 5 (by kernel_rfl) ?_;have hT:=Mj.out;refine T3 (i:=0) 52 (v:=O oz (X.length+1) ov) rfl rfl (by kernel_rfl) (by kernel_rfl) (by kernel_rfl) (by kernel_rfl) (fun _ _ _ h=>h) (Or.inl ⟨by rfl,fun W' f=>by go_simp⟩) hT ?_;simp only[aU,bJ,bN,bM];refine T3 (i:=1) 53 (v:=aB (Z (Y V 0 U))) rfl rfl (by kernel_rfl) (by kernel_rfl) (by kernel_rfl) (by kernel_rfl) (fun _ _ _ h=>h) (Or.inl ⟨by rfl,fun W' f=>by go_simp⟩) hT ?_;simp only[aU,bJ,bN,bM];refine T3 (i:=3) 55 (v:=A I ((X.length:Int)+1)) rfl rfl (by kernel_rfl) (by kernel_rfl) (by kernel_rfl) (by kernel_rfl) (fun _ _ _ h=>h) (Or.inl ⟨by rfl,fun W' f=>by go_simp⟩) hT ?_;simp only[aU,bJ,bN,bM];clear hT;refine T2 (i:=2) (j:=4) (by kernel_rfl) rfl rfl (fun W m=> ?_) (fun W m=> ?_)
       ·go_simp;go_at_call 150;refine(HP.out mt.drew (F+1) p1 (UO.later (Dt (aF _ _)))).mono ?_;intro x9 sB CZ;obtain⟨vG,a0,a1,a2,a3,a4,a5,b5,e5,a6,b6,e6,rfl,gH⟩:=Ir CZ;obtain⟨a9,k9,c9,p9,iO⟩:=abt PJ P2 Ml sg ey HE Mh gH;clear gH CZ;have Ij:sB.cell? (Y L 0 U)=Z (O oz (X.length+1) ov):=(en (a:=(Y L 0 U)) (vG.block L J0 (by simp;omega))).trans Mj;refine m.out _ _ (fun _=>Ij) ?_;clear m W;try simp only[aU,bJ,bN,bM]
        refine Dw (i:=4) (by kernel_rfl) rfl (fun W m=> ?_);go_simp;refine m.out _ _ (fun _=>(en (a:=(Y L 0 U)) (Below.heap_alloc _ _ L (gD J0 vG.size))).trans Ij) ?_;clear m W;try simp only[aU,bJ,bN,bM]
        obtain⟨wm,NQ⟩:∃wm,wm=sB.alloc (M #[A I 0,A I 0,A I 0,A I 0,H ⟨#[]⟩,O U 0 0,O U 0 0] 48):=⟨_,rfl⟩;obtain⟨Z9,Fx⟩:∃Z9,Z9=sB.heap.size:=⟨_,rfl⟩;have kX:Bl sB wm:=(by rw[NQ];exact(aF _ _).alloc (aD _) _);have Mc:ah (Gq _ _ _ _ _ _ _ _ _ _ _ _ _ [A I a0,A I a1,A I a2,A I a3,H a4,O a5 b5 e5,O a6 b6 e6] _ _ _ _):=iO.later kX;have Ce:ah (mt.grownBy wm (Z V)):=World.grownBy.trans (b:=sB) ⟨vG.os,vG.tape,vG.output,vG.size,vG.block⟩ ⟨kX.os,kX.tape,kX.output,kX.size,fun j hj _=>kX.block j hj⟩;have HZ:ah (∀j ad,([A I 0,A I 0,A I 0,A I 0,H ⟨#[]⟩,O U 0 0,O U 0 0]:Lv)[j]? =Z ad->wm.cell? (((Y Z9 0 U):Addr).add j)=Z ad):=(by show ∀j ad,_;rw[NQ,Fx];exact JH _ _);rw[<-NQ,<-Fx];clear NQ Fx kX iO Ij vG;have mV:=Ce.size;have FA:=DT.grown Ce (by omega) (by omega) (by omega);obtain⟨vN,o1,o2,o3⟩:=FA.lo.ex;have Ga:ah (wm.ownsRow (w.heap.size+1) 48 7 (O oz (X++[y]).length ov) (X++[y]).length vN.flatten):=o1;have oE:ah (vN.length=(X++[y]).length):=o2;have wh:ah (∀i (h:i<(X++[y]).length) (h':i<vN.length),uX (aY R) L G (O rh (us.length+1) c8) wm (SB (w.heap.size+1) (O oz (X++[y]).length ov)) (X++[y])[i] vN[i]):=o3;have vV:ah (lE (aY R) wm (w.heap.size+1) L G (O oz (X++[y]).length ov) (O rh (us.length+1) c8) (X++[y]) (us++[t])):=FA;rw[rI] at o1;clear FA o2 o3;obtain⟨i1,rO,RT,sN,gz⟩:=info_parts Tryz.J4;refine Dw (i:=5) (by kernel_rfl) rfl (fun W m=> ?_)
        refine step_append_lies _ rfl (.tmp 52) (.tmp 56) 46 rfl (w.heap.size+1) 48 i1 (.agg #[A I 0,A I 0,A I 0,A I 0,H ⟨#[]⟩,O U 0 0,O U 0 0]) 7 96 underlying46 rO RT sN gz rfl (by decide) (O oz (X.length+1) ov) (X.length+1) vN.flatten (by simp[Act.eval]) o1 (Y Z9 0 U) 1 1 [A I 0,A I 0,A I 0,A I 0,H ⟨#[]⟩,O U 0 0,O U 0 0] (by simp[Act.eval]) rfl HZ (by intro ad hu;simp only[fN,kD,or_false] at hu;rcases hu with rfl | rfl | rfl | rfl | rfl | rfl | rfl<;>rfl) (by omega) (by unfold maxLen;omega) (by omega) (by omega) _ rfl ?_;intro g9 q9 N Bs Kz KW Bv;refine m.out _ _ (fun h=>absurd h (by omega)) ?_;clear m W;try simp only[aU,bJ]
        have E4:(((X++[y]).length:Nat):Int)=(X.length:Int)+1:=(by rw[rI];omega);have cf:=Ga.1;have Ko:N.ownsRow (w.heap.size+1) 48 7 (O (Z (Y g9 0 U)) ((X++[y]).length+1) q9) ((X++[y]).length+1) (vN.flatten++[A I 0,A I 0,A I 0,A I 0,H ⟨#[]⟩,O U 0 0,O U 0 0]):=(by rw[rI];exact Bs);have zc:∀j,j<7->N.cell? (Y g9 ((X.length+1)*7+j) U)=([A I 0,A I 0,A I 0,A I 0,H ⟨#[]⟩,O U 0 0,O U 0 0]:Lv)[j]? :=fun j hj=>by
         rw[Bs.cellAt _ (by omega),List.getElem?_append_right (by rw[cf,rI];omega),cf,rI]
         congr 1
         omega
        have bB:N.cell? (Y g9 ((X.length+1)*7) U)=Z (A I 0):=zc 0 (by omega);have ms:N.cell? (Y g9 ((X.length+1)*7+1) U)=Z (A I 0):=zc 1 (by omega);have wR:N.cell? (Y g9 ((X.length+1)*7+2) U)=Z (A I 0):=zc 2 (by omega);have wQ:N.cell? (Y g9 ((X.length+1)*7+3) U)=Z (A I 0):=zc 3 (by omega);have yb:N.cell? (Y g9 ((X.length+1)*7+4) U)=Z (H ⟨#[]⟩):=zc 4 (by omega);have Ji:N.cell? (Y g9 ((X.length+1)*7+5) U)=Z (O U 0 0):=zc 5 (by omega);have Jh:N.cell? (Y g9 ((X.length+1)*7+6) U)=Z (O U 0 0):=zc 6 (by omega);have zf:=Bs.frozenAt;have bC:=zf ((X.length+1)*7);have bF:=zf ((X.length+1)*7+1);have bG:=zf ((X.length+1)*7+2);have bQ:=zf ((X.length+1)*7+3);have bS:=zf ((X.length+1)*7+4);have bT:=zf ((X.length+1)*7+5);have bU:=zf ((X.length+1)*7+6);have Fq:wm.grownBy N (Value.slice oz (X++[y]).length ov).ownBlock:=(by rw[rI];exact Kz);have KV:(Value.slice oz (X++[y]).length ov).ownBlock=Z g9\/g9=wm.heap.size:=(by rw[rI];exact KW);obtain⟨Rw,Ft⟩:=abw (P:=P) ai BM aM aW DT Ce Mc Mh KD vV oE Ga wh Ko Fq KV;rw[rI] at Ft;have DO:ah (zN _ _ _ _ _ _ _ _ _ _ _ _ _ _ _ _ _ _):=Ft;have xD:_=Z (Obj.cells #[O oz (X++[y]).length ov] _ _):=(Fq.block L (gD J0 mV) (JA Ga vV.lb (by decide))).trans vV.lb;have bW:N.cell? (Y L 0 U)=Z (O oz (X++[y]).length ov):=(by simp[aN,xD]);have bY:N.frozen? (Y L 0 U)=ak:=(by simp[World.frozen?,xD]);have b0:L<N.heap.size:=J xD;clear Ft Bs Ko Kz KW Fq KV xD zc zf cf o1;have hM:ts.length - k9<ts.length - F:=(by have h8:=Mc.gt;have b:=Ml.out;omega);refine acn (i:=6) 58 (v:=aB (Z (Y g9 ((X.length+1)*7) U))) rfl rfl (by omega) (by kernel_rfl) (by kernel_rfl) (by kernel_rfl) (fun _ _ _ h=>h) (Or.inl ⟨by rfl,fun W' f=>by clear f;go_simp⟩) ?_;try simp only[aU]
        refine T2 (i:=7) (j:=8) (by kernel_rfl) rfl rfl (fun W m=> ?_) (fun W m=> ?_)
        ·go_simp;refine m.out _ _ (fun h=>absurd h (by omega)) ?_;clear m W;refine Dw (i:=8) (by kernel_rfl) rfl (fun W m=> ?_);go_simp;refine m.out _ _ (fun h=>absurd h (by omega)) ?_;clear m W;refine LK (by kernel_rfl) ?_ _;have b:=DO.out;go_wp2;exact⟨⟨_,_,_,_,_,_,b⟩,O1 b.tx HI.tx hM⟩
        ·go_simp;refine m.out _ _ (fun h=>absurd h (by omega)) ?_;clear m W;refine Dw (i:=7) (by kernel_rfl) rfl (fun W m=> ?_);go_simp;refine m.out _ _ (fun h=>absurd h (by omega)) ?_;clear m W;refine LK (by kernel_rfl) ?_ _;have b:=DO.out;rw[<-W8 _ _ Rw] at b;go_wp2;exact⟨⟨_,_,_,_,_,_,b⟩,O1 b.tx HI.tx hM⟩
       ·go_simp;obtain⟨wB,Ag⟩:=nm ((mt.alloc (M #[A I 0,A I 0,A I 0,A I 0,H ⟨#[]⟩,O U 0 0,O U 0 0] 48)).drew);rw[<-Ag];have nV:Bl mt wB:=(by rw[Ag];exact Dt (FU (aF _ _) _ (aD _)));have Zr:∀j ad,([A I 0,A I 0,A I 0,A I 0,H ⟨#[]⟩,O U 0 0,O U 0 0]:Lv)[j]? =Z ad->wB.cell? (((Y mt.heap.size 0 U):Addr).add j)=Z ad:=(by rw[Ag];exact JH mt _);have Z4:wB.heap.size=mt.heap.size+1:=(by rw[Ag];show(mt.heap.push _).size=_;rw[Array.size_push]);have ST:wB.cell? (Y L 0 U)=Z (O oz (X.length+1) ov):=(en (a:=(Y L 0 U)) (nV.block L J0)).trans Mj;have PG:=am Zr;have F6:=am (UO.later nV);have pj:=am nV;have U0:=am Z4;clear Ag Zr nV Z4;refine m.out _ _ (fun _=>ST) ?_;clear m W;try simp only[aU,bJ,bN,bM]
        refine Dw (i:=2) (by kernel_rfl) rfl (fun W m=> ?_);go_simp;go_at_call 150;refine(HP.out wB (F+1) p1 F6).mono ?_;intro x9 sB CZ;obtain⟨vG,a0,a1,a2,a3,a4,a5,b5,e5,a6,b6,e6,rfl,gH⟩:=Ir CZ;obtain⟨a9,k9,c9,p9,iO⟩:=abt PJ P2 Ml sg ey HE Mh gH;clear gH CZ;have Ij:sB.cell? (Y L 0 U)=Z (O oz (X.length+1) ov):=(en (a:=(Y L 0 U)) (vG.block L (by have b:=U0.out;omega) (by simp;omega))).trans ST;refine m.out _ _ (fun _=>Ij) ?_;clear m W;try simp only[aU,bJ,bN,bM]
        obtain⟨Z9,Fx⟩:=nm mt.heap.size;have Mc:ah (Gq sB V e ts v bl al P R (X++[y]) (us++[t]) F mt.heap.size [A I a0,A I a1,A I a2,A I a3,H a4,O a5 b5 e5,O a6 b6 e6] a9 k9 c9 p9):=⟨iO.gt,iO.tx,fun o=>(iO.tr o).mono fun ar hb _=>by have b:=U0.out;omega,iO.on⟩;have Ce:=am (World.grownBy.trans (b:=wB) ⟨pj.os,pj.tape,pj.output,pj.size,fun j hj _=>pj.block j hj⟩ vG);have HZ:ah (∀j ad,([A I 0,A I 0,A I 0,A I 0,H ⟨#[]⟩,O U 0 0,O U 0 0]:Lv)[j]? =Z ad->sB.cell? (((Y Z9 0 U):Addr).add j)=Z ad):=(by show ∀j ad,_;intro j ad hj;rw[Fx];have cd:=UO.lt;refine(en (a:=((Y mt.heap.size 0 U):Addr).add j) ?_).trans (PG.out j ad hj);have e9:((Y mt.heap.size 0 U):Addr).add j=(Y mt.heap.size j U):=(by simp[Addr.add];intro h;exact h.symm);rw[e9];show sB.heap[mt.heap.size]? =wB.heap[mt.heap.size]?;exact vG.block mt.heap.size (by have b:=U0.out;omega) (by simp;omega))
        rw[<-Fx];clear Fx iO Ij vG ST;have mV:=Ce.size;have FA:=DT.grown Ce (by omega) (by omega) (by omega);obtain⟨vN,o1,o2,o3⟩:=FA.lo.ex;have Ga:ah (sB.ownsRow (w.heap.size+1) 48 7 (O oz (X++[y]).length ov) (X++[y]).length vN.flatten):=o1;have oE:ah (vN.length=(X++[y]).length):=o2;have wh:ah (∀i (h:i<(X++[y]).length) (h':i<vN.length),uX (aY R) L G (O rh (us.length+1) c8) sB (SB (w.heap.size+1) (O oz (X++[y]).length ov)) (X++[y])[i] vN[i]):=o3;have vV:ah (lE (aY R) sB (w.heap.size+1) L G (O oz (X++[y]).length ov) (O rh (us.length+1) c8) (X++[y]) (us++[t])):=FA;rw[rI] at o1;clear FA o2 o3;obtain⟨i1,rO,RT,sN,gz⟩:=info_parts Tryz.J4;refine Dw (i:=5) (by kernel_rfl) rfl (fun W m=> ?_);refine step_append_lies _ rfl (.tmp 52) (.tmp 56) 46 rfl (w.heap.size+1) 48 i1 (.agg #[A I 0,A I 0,A I 0,A I 0,H ⟨#[]⟩,O U 0 0,O U 0 0]) 7 96 underlying46 rO RT sN gz rfl (by decide) (O oz (X.length+1) ov) (X.length+1) vN.flatten (by simp[Act.eval]) o1 (Y Z9 0 U) 1 1 [A I 0,A I 0,A I 0,A I 0,H ⟨#[]⟩,O U 0 0,O U 0 0] (by simp[Act.eval]) rfl HZ (by intro ad hu;simp only[fN,kD,or_false] at hu;rcases hu with rfl | rfl | rfl | rfl | rfl | rfl | rfl<;>rfl) (by omega) (by unfold maxLen;omega) (by omega) (by omega) _ rfl ?_;intro g9 q9 N Bs Kz KW Bv;refine m.out _ _ (fun h=>absurd h (by omega)) ?_;clear m W;try simp only[aU,bJ]
        have E4:(((X++[y]).length:Nat):Int)=(X.length:Int)+1:=(by rw[rI];omega);have cf:=Ga.1;have Ko:N.ownsRow (w.heap.size+1) 48 7 (O (Z (Y g9 0 U)) ((X++[y]).length+1) q9) ((X++[y]).length+1) (vN.flatten++[A I 0,A I 0,A I 0,A I 0,H ⟨#[]⟩,O U 0 0,O U 0 0]):=(by rw[rI];exact Bs);have zc:∀j,j<7->N.cell? (Y g9 ((X.length+1)*7+j) U)=([A I 0,A I 0,A I 0,A I 0,H ⟨#[]⟩,O U 0 0,O U 0 0]:Lv)[j]? :=fun j hj=>by
         rw[Bs.cellAt _ (by omega),List.getElem?_append_right (by rw[cf,rI];omega),cf,rI]
         congr 1
         omega
        have bB:N.cell? (Y g9 ((X.length+1)*7) U)=Z (A I 0):=zc 0 (by omega);have ms:N.cell? (Y g9 ((X.length+1)*7+1) U)=Z (A I 0):=zc 1 (by omega);have wR:N.cell? (Y g9 ((X.length+1)*7+2) U)=Z (A I 0):=zc 2 (by omega);have wQ:N.cell? (Y g9 ((X.length+1)*7+3) U)=Z (A I 0):=zc 3 (by omega);have yb:N.cell? (Y g9 ((X.length+1)*7+4) U)=Z (H ⟨#[]⟩):=zc 4 (by omega);have Ji:N.cell? (Y g9 ((X.length+1)*7+5) U)=Z (O U 0 0):=zc 5 (by omega);have Jh:N.cell? (Y g9 ((X.length+1)*7+6) U)=Z (O U 0 0):=zc 6 (by omega);have zf:=Bs.frozenAt;have bC:=zf ((X.length+1)*7);have bF:=zf ((X.length+1)*7+1);have bG:=zf ((X.length+1)*7+2);have bQ:=zf ((X.length+1)*7+3);have bS:=zf ((X.length+1)*7+4);have bT:=zf ((X.length+1)*7+5);have bU:=zf ((X.length+1)*7+6);have Fq:sB.grownBy N (Value.slice oz (X++[y]).length ov).ownBlock:=(by rw[rI];exact Kz);have KV:(Value.slice oz (X++[y]).length ov).ownBlock=Z g9\/g9=sB.heap.size:=(by rw[rI];exact KW);obtain⟨Rw,Ft⟩:=abw (P:=P) ai BM aM aW DT Ce Mc Mh KD vV oE Ga wh Ko Fq KV;rw[rI] at Ft;have DO:ah (zN _ _ _ _ _ _ _ _ _ _ _ _ _ _ _ _ _ _):=Ft;have xD:N.heap[L]? =Z (M #[O oz (X++[y]).length ov] 46):=(Fq.block L (gD J0 mV) (JA Ga vV.lb (by decide))).trans vV.lb;have bW:N.cell? (Y L 0 U)=Z (O oz (X++[y]).length ov):=(by simp[aN,xD]);have bY:N.frozen? (Y L 0 U)=ak:=(by simp[World.frozen?,xD]);have b0:L<N.heap.size:=J xD;clear Ft Bs Ko Kz KW Fq KV xD zc zf cf o1;have hM:ts.length - k9<ts.length - F:=(by have h8:=Mc.gt;have b:=Ml.out;omega);refine acn (i:=6) 58 (v:=aB (Z (Y g9 ((X.length+1)*7) U))) rfl rfl (by omega) (by kernel_rfl) (by kernel_rfl) (by kernel_rfl) (fun _ _ _ h=>h) (Or.inl ⟨by rfl,fun W' f=>by clear f;go_simp⟩) ?_;try simp only[aU]
        refine T2 (i:=7) (j:=8) (by kernel_rfl) rfl rfl (fun W m=> ?_) (fun W m=> ?_)
        ·go_simp;refine m.out _ _ (fun h=>absurd h (by omega)) ?_;clear m W;refine Dw (i:=8) (by kernel_rfl) rfl (fun W m=> ?_);go_simp;refine m.out _ _ (fun h=>absurd h (by omega)) ?_;clear m W;refine LK (by kernel_rfl) ?_ _;have b:=DO.out;go_wp2;exact⟨⟨_,_,_,_,_,_,b⟩,O1 b.tx HI.tx hM⟩
        ·go_simp;refine m.out _ _ (fun h=>absurd h (by omega)) ?_;clear m W;refine Dw (i:=7) (by kernel_rfl) rfl (fun W m=> ?_);go_simp;refine m.out _ _ (fun h=>absurd h (by omega)) ?_;clear m W;refine LK (by kernel_rfl) ?_ _;have b:=DO.out;rw[<-W8 _ _ Rw] at b;go_wp2;exact⟨⟨_,_,_,_,_,_,b⟩,O1 b.tx HI.tx hM⟩
theorem ahU {a:List Tok->aA Tr}(c:ag.Good ts)(h:zv V e ts v bl al (ag.oJ e a P)):zv V e ts v bl al (ag.gE e a P):=by
 intro w k p d;have b:=h w k p d;rw[ag.ahM (c.dn (List.drop_suffix _ _))] at b;exact b
theorem aof (b:ag.Good ts)(c:qx ts)(g:Py ts)(h:II):∀k,k<=12->zv V e ts v bl ((12 - k:Nat):Int) (ag.wX e k)/\zO V e ts v bl ((12 - k:Nat):Int) (ag.fp e k):=by
 intro k;induction k with
 | zero=>
  intro _;have a:zv V e ts v bl ((12 - 0:Nat):Int) (ag.wX e 0):=ahQ;exact⟨a,abr b c (ag.CF e 0) a⟩
 | succ k i=>
  intro l;obtain⟨a,d⟩:=i (by omega);have j:12 - k=(12 - (k+1))+1:=(by omega);rw[j] at a d;have f:zv _ _ _ _ _ _ _:=ahU b (ahL (by omega) b c g h d a);exact⟨f,abr b c (ag.CF e (k+1)) f⟩
section
namespace Lex
open Go
def sx:Lu:=[32,99,104,105,101,102,32,97,99,116,115,32,105,110,32,111,117,116,32,112,114,111,99,32,98,101,103,105,110,32,102,111,114,32,118,97,114,32,105,102,32,101,108,115,101,32,119,104,105,108,101,32,115,101,110,100,32,116,97,107,101,32,100,111,32,114,101,116,117,114,110,32,114,101,108,101,97,115,101,32,116,111,32,105,110,116,32,98,111,111,108,32,116,114,117,101,32,102,97,108,115,101,32]
def G9:Lu:=[97,98,99,100,101,102,103,104,105,106,107,108,109,110,111,112,113,114,115,116,117,118,119,120,121,122,65,66,67,68,69,70,71,72,73,74,75,76,77,78,79,80,81,82,83,84,85,86,87,88,89,90,95]
def uF:Lu:=[48,49,50,51,52,53,54,55,56,57]
def rY:Lu:=[97,98,99,100,101,102,103,104,105,106,107,108,109,110,111,112,113,114,115,116,117,118,119,120,121,122,65,66,67,68,69,70,71,72,73,74,75,76,77,78,79,80,81,82,83,84,85,86,87,88,89,90,95,48,49,50,51,52,53,54,55,56,57]
def MM (i:Nat):Lu:=(sx.drop (i+1)).takeWhile (fun c=>c !=32)
theorem adD:∀i,i<130->sx[i]? =Z 32->MM i≠[]->i8 (MM i)=ap:=by decide+kernel
def ML:List (Lu):=[[99,104,105,101,102],[97,99,116,115],[105,110],[111,117,116],[112,114,111,99],[98,101,103,105,110],[102,111,114],[118,97,114],[105,102],[101,108,115,101],[119,104,105,108,101],[115,101,110,100],[116,97,107,101],[100,111],[114,101,116,117,114,110],[114,101,108,101,97,115,101],[116,111],[105,110,116],[98,111,111,108],[116,114,117,101],[102,97,108,115,101]]
theorem Ws (h:i8 n=ap):n∈ML:=by
 simp only[i8,Bool.or_eq_true,beq_iff_eq,or_assoc] at h;simp only[ML,fN,kD,or_false];exact h
theorem adA:∀n∈ML,Lib.contains sx (32::(n++[32]))=ap/\Lib.indexByte n 32= -1/\n≠[]:=by decide+kernel
theorem Wt (h:i8 n=ap):Lib.contains sx (32::(n++[32]))=ap/\Lib.indexByte n 32= -1/\n≠[]:=adA n (Ws h)
theorem Jo {P:UInt8->Prop}(h:∀n,n<256->P (UInt8.ofNat n))(c:UInt8):P c:=by
 have:=h c.toNat c.toNat_lt;simpa using this
theorem aer {r:Lu}(b:∀c∈n,c≠32):(n++32::r).takeWhile (fun c=>c !=32)=n:=by
 induction n with
 | nil=>simp
 | cons a t d=>
  have e:a≠32:=b a (by simp);simp only[List.cons_append,List.takeWhile_cons];rw[if_pos (by simpa using e),d (fun c f=>b c (by simp[f]))]
theorem aia (l:Lu)(c:UInt8)(h:¬0<=Lib.indexByte l c):∀a∈l,a≠c:=by
 induction l with
 | nil=>simp
 | cons a r d=>
  unfold Lib.indexByte at h;by_cases b:(a==c)=ap
  ·rw[if_pos b] at h;omega
  ·rw[if_neg b] at h;have e:¬0<=Lib.indexByte r c:=by
    split at h
    ·rename_i f;have:=eq_of_beq f;omega
    ·omega
   intro x hx;rcases List.mem_cons.1 hx with rfl | hx
   ·simpa using b
   ·exact d e x hx
theorem akX (d:n≠[])(h:Lib.contains sx (32::(n++[32]))=ap)(e:¬0<=Lib.indexByte n 32):i8 n=ap:=by
 have f:=aia n 32 e;unfold Lib.contains at h;have k:0<=Lib.index sx (32::(n++[32])):=(by simpa using h);rcases Lib.index_spec sx (32::(n++[32])) with⟨m,_⟩|⟨i,_,o,a,_⟩
 ·omega
 ·unfold Lib.occAt at a;rw[List.isPrefixOf_iff_prefix] at a;obtain⟨r,b⟩:=a;have g:sx[i]? =Z 32:=by
   have:=congrArg (fun l:Lu=>l[0]?) b;simpa[List.getElem?_drop] using this.symm
  have j:sx.drop (i+1)=n++32::r:=(by have:=congrArg (fun l:Lu=>l.drop 1) b;simpa using this.symm);have c:MM i=n:=(by unfold MM;rw[j];exact aer f);have p:sx.length<130:=(by decide);have:=adD i (by omega) g (by rw[c];exact d);rwa [c] at this
theorem apC (c:UInt8):decide (0<=Lib.indexByte [32,9,10] c)=mi (c.toNat:Int):=Jo (P:=fun c=>decide (0<=Lib.indexByte [32,9,10] c)=mi (c.toNat:Int)) (by decide+kernel) c
theorem aqf (c:UInt8):decide (0<=Lib.indexByte G9 c)=gx (c.toNat:Int):=Jo (P:=fun c=>decide (0<=Lib.indexByte G9 c)=gx (c.toNat:Int)) (by decide+kernel) c
theorem anY (c:UInt8):decide (0<=Lib.indexByte uF c)=ej (c.toNat:Int):=Jo (P:=fun c=>decide (0<=Lib.indexByte uF c)=ej (c.toNat:Int)) (by decide+kernel) c
theorem TK (c:UInt8):rY.contains c=dY (c.toNat:Int):=Jo (P:=fun c=>rY.contains c=dY (c.toNat:Int)) (by decide+kernel) c
theorem ane (c:UInt8):uF.contains c=ej (c.toNat:Int):=Jo (P:=fun c=>uF.contains c=ej (c.toNat:Int)) (by decide+kernel) c
theorem WI (p:Int->Bool)(b:Lu)(h:∀c:UInt8,b.contains c=p (c.toNat:Int))(l:Lu):Lib.trimLeftS l b=l.drop (bX p l):=by
 unfold Lib.trimLeftS;induction l with
 | nil=>rfl
 | cons a r d=>
  simp only[List.dropWhile_cons,bX,h a];cases p (a.toNat:Int)
  ·rfl
  ·simpa using d
theorem YD (l:Lu):(0<=Lib.indexByte l 10->Lib.indexByte l 10=(bX kT l:Nat)/\bX kT l<l.length)/\(¬0<=Lib.indexByte l 10->bX kT l=l.length):=by
 induction l with
 | nil=>exact⟨fun h=>by simp[Lib.indexByte] at h,fun _=>rfl⟩
 | cons a r c=>
  unfold Lib.indexByte;by_cases b:(a==10)=ap
  ·rw[if_pos b];have e:a=10:=eq_of_beq b;subst e;refine⟨fun _=>⟨rfl,by simp[bX,kT]⟩,fun h=>by omega⟩
  ·rw[if_neg b];have g:kT (a.toNat:Int)=ap:=by
    have i:a≠10:=(by simpa using b);have hn:(a.toNat:Int)≠10:=(by intro e;apply i;apply UInt8.toNat_inj.1;simp;omega);simp[kT,hn]
   simp only[bX,g,if_true,List.length_cons];by_cases d:0<=Lib.indexByte r 10
   ·obtain⟨j,f⟩:=c.1 d;rw[if_neg (by simp;omega)];exact⟨fun _=>⟨by omega,by omega⟩,fun h=>by omega⟩
   ·have j:=c.2 d;have f:Lib.indexByte r 10= -1:=by
     have:∀l:Lu, -1<=Lib.indexByte l 10:=by
      intro l;induction l with
      | nil=>simp[Lib.indexByte]
      | cons a t c=>
       unfold Lib.indexByte;split
       ·omega
       ·split<;>omega
     have:=this r;omega
    rw[if_pos (by simp[f])];exact⟨fun h=>by omega,fun _=>by omega⟩
theorem aeH {p:Nat}(h:p+dJ ak (l.drop p)=a+dJ ak (l.drop a)):mu l p=mu l a:=by unfold mu;rw[h]
theorem afb {p:Nat}{acc:List Tok}(h:p+dJ ak (l.drop p)=a+dJ ak (l.drop a)):lZ l (f+1) p acc=lZ l (f+1) a acc:=by
 unfold lZ;rw[aeH h]
end Lex
end
theorem aex (s:Bt):((⟨#[32]⟩:Bt)++s++⟨#[32]⟩).data.toList=32::(s.data.toList++[32]):=by
 have a:s=⟨s.data.toList.toArray⟩:=rfl;have b:(⟨#[32]⟩:Bt)=⟨([32]:Lu).toArray⟩:=rfl
 conv=>lhs;rw[a,b]
 rw[ByteArray.mk_append_mk,ByteArray.mk_append_mk];simp
theorem abH (s:Bt)(b:Bool)(m:Int)(w:au)(hm:w.cell? (Y 3 0 U)=Z (A I m))(h:ah (Lib.contains Lex.sx (32::(s.data.toList++[32]))=b)):
 aC prog 97 #[H ⟨Lex.sx.toArray⟩,H ((⟨#[32]⟩:Bt)++s++⟨#[32]⟩)] w fun e w'=>e=aE (az b)/\w'=w:=by
 have:=strings_Contains ⟨Lex.sx.toArray⟩ ((⟨#[32]⟩:Bt)++s++⟨#[32]⟩) m w (by decide) hm;rw[aex,show(⟨Lex.sx.toArray⟩:Bt).data.toList=Lex.sx from rfl,h.out] at this;exact this
theorem aop (s:Bt)(b:Bool)(w:au)(h:ah (decide (0<=Lib.indexByte s.data.toList 32)=b)):
 aC prog 97 #[H s,H ⟨#[32]⟩] w fun e w'=>e=aE (az b)/\w'=w:=by
 have:=strings_Contains_one s 32 w;rw[h.out] at this;exact this
theorem NF (s:Bt)(m:Int)(w:au)(l:s.size<=140737488351232)(hm:w.cell? (Y 3 0 U)=Z (A I m)):
 aC prog 100 #[H s] w fun e w'=>e=aE (az (Lex.i8 s.data.toList))/\w'=w:=by
 by_cases b:s.data.toList=[]
 ·have j:s.toList.isEmpty=ap:=(by rw[Lex.jU,b];rfl);have a:Lex.i8 s.data.toList=ak:=(by rw[b];rfl);rw[a];clear b a;go_enter func100,ntmps100;go_wp2;go_ret;exact⟨rfl,rfl⟩
 ·have j:s.toList.isEmpty=ak:=(by rw[Lex.jU];simpa using b);cases hc:Lib.contains Lex.sx (32::(s.data.toList++[32]))
  ·have a:Lex.i8 s.data.toList=ak:=by
    cases a:Lex.i8 s.data.toList
    ·rfl
    ·rw[(Lex.Wt a).1] at hc;cases hc
   have f:=am hc;rw[a];clear hc a b;go_enter func100,ntmps100;go_wp2_with fail;refine(abH s ak m _ hm f).mono ?_;rintro e w1 ⟨rfl,c⟩;have d:=c.symm;subst d;go_wp2;go_ret;exact⟨rfl,rfl⟩
  ·have i:Lex.i8 s.data.toList= !decide (0<=Lib.indexByte s.data.toList 32):=by
    cases a:Lex.i8 s.data.toList
    ·cases hd:decide (0<=Lib.indexByte s.data.toList 32)
     ·rw[Lex.akX b hc (by simpa using hd)] at a;cases a
     ·rfl
    ·rw[(Lex.Wt a).2.1];rfl
   have f:=am hc;obtain⟨g,h⟩:∃g,decide (0<=Lib.indexByte s.data.toList 32)=g:=⟨_,rfl⟩;rw[i,h];have k:=am h;clear hc i b h;go_enter func100,ntmps100;go_wp2_with fail;refine(abH s ap m _ hm f).mono ?_;rintro e w1 ⟨rfl,c⟩;have d:=c.symm;subst d;go_wp2_with fail;refine(aop s g _ k).mono ?_;rintro e w1 ⟨rfl,c⟩;have d:=c.symm;subst d;go_wp2;go_ret;exact⟨rfl,rfl⟩
theorem one_byte (s:Bt)(a:Nat)(h:a<s.size):s.extract a (a+1)=⟨#[s[a]]⟩:=by
 rw[Lex.abi];have b:a<s.data.toList.length:=(by simpa using h);rw[List.drop_eq_getElem_cons b];simp;rfl
theorem ais (s:Bt)(a:s.data.toList≠[])(d:¬12<s.size)(b:Lex.gx (Lex.c0 s.data.toList)=ap)(c:Lex.bX Lex.dY s.data.toList=s.data.toList.length):Lex.kR s.data.toList= !Lex.i8 s.data.toList:=by
 exact Lex.Rv a (by rw[Lex.df];omega) b c
theorem M3 (s:Bt)(w:au)(p:s.size<=9223372036854775807):
 aC prog 42 #[H s] w fun e w'=>e=aE (az (Lex.kR s.data.toList))/\w'=w:=by
 by_cases b:s.data.toList=[]
 ·have i:s.toList.isEmpty=ap:=(by rw[Lex.jU,b];rfl);have a:Lex.kR s.data.toList=ak:=(by rw[b];rfl);rw[a];clear b a;go_enter func42,ntmps42;go_wp2;go_ret;exact⟨rfl,rfl⟩
 ·have i:s.toList.isEmpty=ak:=(by rw[Lex.jU];simpa using b);have j:0<s.size:=(by rw[<-Lex.df];exact List.length_pos_iff.2 b);by_cases k:12<s.size
  ·have a:Lex.kR s.data.toList=ak:=Lex.Ru (by rw[Lex.df];omega);rw[a];have l:decide ((12:Int)<(s.size:Int))=ap:=(by simp;omega);clear b a;go_enter func42,ntmps42;go_wp2;go_ret;exact⟨rfl,rfl⟩
  ·have l:decide ((12:Int)<(s.size:Int))=ak:=(by simp;omega);have d:=Lex.LF s j;cases ha:Lex.gx ((s[0].toNat:Nat):Int)
   ·have a:Lex.kR s.data.toList=ak:=Lex.Yp (by rw[d];exact ha);rw[a];clear b a d;go_enter func42,ntmps42;go_wp2_with (go_at_call 85;refine(BW _ _).mono ?_;rintro e w' ⟨rfl,rfl⟩);go_ret;exact⟨rfl,rfl⟩
   ·by_cases c:Lex.bX Lex.dY s.data.toList=s.data.toList.length
    ·have a:=ais s b k (by rw[d];exact ha) c;have m:ah (s.extract 0 (Lex.bX Lex.dY s.data.toList)=s):=(by show _=_;rw[Lex.head_eq,c,List.take_length]);rw[a];obtain⟨f,g⟩:∃f,Lex.i8 s.data.toList=f:=⟨_,rfl⟩;rw[g];have n:ah (Lex.i8 s.toList=f):=(by show _=_;rw[Lex.jU];exact g);clear b a d c g;go_enter func42,ntmps42;go_wp2_with (first |(go_at_call 85;refine(BW _ _).mono ?_;rintro e w' ⟨rfl,rfl⟩)|(go_at_call 86;refine(QU _ _ (by omega)).mono ?_;rintro e w' ⟨rfl,rfl⟩;rw[m.out])|(go_at_call 88;refine(Qq _ _).mono ?_;rintro e w' ⟨rfl,rfl⟩;rw[n.out]));go_ret;exact⟨rfl,rfl⟩
    ·have a:Lex.kR s.data.toList=ak:=Lex.Yo c;have h:(s.extract 0 (Lex.bX Lex.dY s.data.toList)).toList≠s.toList:=(by rw[Lex.jU,Lex.jU,Lib.extract_data];intro e;have:=congrArg List.length e;simp at this;have o:=Lex.wV Lex.dY s.data.toList;simp at o c;omega);have q:((s.extract 0 (Lex.bX Lex.dY s.data.toList)).toList==s.toList)=ak:=(by simpa using h);rw[a];clear b a d c h;go_enter func42,ntmps42;go_wp2_with (first |(go_at_call 85;refine(BW _ _).mono ?_;rintro e w' ⟨rfl,rfl⟩)|(go_at_call 86;refine(QU _ _ (by omega)).mono ?_;rintro e w' ⟨rfl,rfl⟩));go_ret;exact⟨rfl,rfl⟩
namespace Lex
theorem drop_nil (p:UInt8->Bool)(x:Lu):x.dropWhile p=[]↔∀a∈x,p a=ap:=by
 induction x with
 | nil=>simp
 | cons a r b=>
  simp only[List.dropWhile_cons,fN,forall_eq_or_imp];cases p a<;>simp[b]
theorem anO (p:UInt8->Bool)(x:Lu)(h:x.dropWhile p≠[]):∃a∈x.dropWhile p,p a=ak:=by
 induction x with
 | nil=>simp at h
 | cons a r b=>
  cases hp:p a
  ·exact⟨a,by simp[hp],hp⟩
  ·simp only[List.dropWhile_cons,hp,if_true] at h⊢;exact b h
theorem Xd (p:Int->Bool)(l:Lu):bX p l=l.length↔∀a∈l,p (a.toNat:Int)=ap:=by
 induction l with
 | nil=>simp[bX]
 | cons a r b=>
  simp only[bX,List.length_cons,fN,forall_eq_or_imp];cases p (a.toNat:Int)
  ·simp
  ·simp[b]
theorem aeg (l:Lu):(Lib.trimS l rY).isEmpty=decide (bX dY l=l.length):=by
 have g:Lib.trimS l rY=[]↔bX dY l=l.length:=by
  rw[Xd];unfold Lib.trimS Lib.trimLeftS;rw[drop_nil];unfold Lib.trimRightS;constructor
  ·intro h;have d:l.reverse.dropWhile (fun c=>rY.contains c)=[]:=by
    by_cases e:l.reverse.dropWhile (fun c=>rY.contains c)=[]
    ·exact e
    ·obtain⟨a,b,f⟩:=anO _ _ e;have:=h a (by simpa using b);rw[this] at f;cases f
   rw[drop_nil] at d;intro a b;rw[<-TK];exact d a (by simpa using b)
  ·intro h;have d:l.reverse.dropWhile (fun c=>rY.contains c)=[]:=by
    rw[drop_nil];intro a b;rw[TK];exact h a (by simpa using b)
   rw[d];simp
 rw[Bool.eq_iff_iff];simpa using g
end Lex
theorem abW:∀(j:Nat) a,(⟨Lex.rY.toArray⟩:Bt).data.toList[j]? =Z a->a.toNat<128:=by
 have h:∀a∈Lex.rY,a.toNat<128:=(by decide);intro j a b;exact h a (List.mem_of_getElem? b)
theorem WJ (s:Bt)(w:au)(c:s.size<=140737488351232)(b:Bool)(h:ah (decide (Lex.bX Lex.dY s.data.toList=s.data.toList.length)=b)):
 aC prog 107 #[H s,H ⟨Lex.rY.toArray⟩] w fun e w'=>∃t:Bt,e=aE (H t)/\t.toList.isEmpty=b/\Bl w w':=by
 refine(strings_Trim_set s ⟨Lex.rY.toArray⟩ w (by omega) (by decide) abW).mono ?_;rintro e w' ⟨rfl,a⟩;refine⟨_,rfl,?_,a⟩;rw[ByteArray.toList_mk,show(⟨Lex.rY.toArray⟩:Bt).data.toList=Lex.rY from rfl,Lex.aeg];exact h.out
theorem TE (c:UInt8)(w:au)(b:Bool)(h:ah (Lex.ej (c.toNat:Int)=b)):
 aC prog 97 #[H ⟨Lex.uF.toArray⟩,H ⟨#[c]⟩] w fun e w'=>e=aE (az b)/\w'=w:=by
 have:=strings_Contains_one ⟨Lex.uF.toArray⟩ c w;rw[show(⟨Lex.uF.toArray⟩:Bt).data.toList=Lex.uF from rfl,Lex.anY,h.out] at this;exact this
theorem aco (h:Lex.dY c=ap):Lex.gx c= !Lex.ej c:=by
 cases hd:Lex.ej c
 ·simp[Lex.dY,hd] at h;simp[h]
 ·simp[Lex.ej] at hd;simp[Lex.gx];omega
theorem akI (s:Bt)(m:Int)(w:au)(E:s.size<=9223372036854775807)(hm:w.cell? (Y 3 0 U)=Z (A I m)):
 aC prog 57 #[H s] w fun e w'=>e=aE (az (Lex.kR s.data.toList))/\Bl w w':=by
 by_cases a:s.data.toList=[]
 ·have u:s.toList.isEmpty=ap:=(by rw[Lex.jU,a];rfl);have p:Lex.kR s.data.toList=ak:=(by rw[a];rfl);rw[p];clear a p;go_enter func57,ntmps57;go_wp2;go_ret;exact⟨rfl,aF _ _⟩
 ·have u:s.toList.isEmpty=ak:=(by rw[Lex.jU];simpa using a);have i:0<s.size:=(by rw[<-Lex.df];exact List.length_pos_iff.2 a);by_cases F:s.size<=12
  ·have d:s.size<=140737488351232:=(by omega);have v:decide ((s.size:Int)<=12)=ap:=(by simp;omega);have f:=Lex.LF s i;cases sP:Lex.i8 s.data.toList
   ·have h:=am sP;by_cases b:Lex.bX Lex.dY s.data.toList=s.data.toList.length
    ·have q:=(Lex.Xd Lex.dY s.data.toList).1 b;have j:=q s[0] (by rw[Lex.Pi s i];simp);have r:Lex.kR s.data.toList= !Lex.ej ((s[0].toNat:Nat):Int):=by
      cases hd:Lex.ej ((s[0].toNat:Nat):Int)
      ·rw[Lex.Rv a (by rw[Lex.df];omega) (by rw[f,aco j,hd];rfl) b,sP]
      ·rw[Lex.Yp (by rw[f,aco j,hd];rfl)];rfl
     rw[r];obtain⟨k,l⟩:∃k,Lex.ej ((s[0].toNat:Nat):Int)=k:=⟨_,rfl⟩;rw[l];have x:=am l;have n:ah (decide (Lex.bX Lex.dY s.data.toList=s.data.toList.length)=ap):=(by show _=_;simpa using b);have y:=am (one_byte s 0 i);clear a f sP b q j r l;go_enter func57,ntmps57;go_wp2_with fail;refine(NF s m _ d hm).mono ?_;rintro e w1 ⟨rfl,g⟩;have c:=g.symm;subst c;rw[h.out];go_wp2_with fail;refine(WJ s _ d ap n).mono ?_;rintro e z ⟨t,rfl,B,o⟩;go_wp2_with fail;rw[y.out];refine(TE _ _ k x).mono ?_;rintro e G ⟨rfl,C⟩;have c:=C.symm;subst c;go_wp2;go_ret;exact⟨rfl,o⟩
    ·rw[Lex.Yo b];have n:ah (decide (Lex.bX Lex.dY s.data.toList=s.data.toList.length)=ak):=(by show _=_;simpa using b);clear a f sP b;go_enter func57,ntmps57;go_wp2_with fail;refine(NF s m _ d hm).mono ?_;rintro e w1 ⟨rfl,g⟩;have c:=g.symm;subst c;rw[h.out];go_wp2_with fail;refine(WJ s _ d ak n).mono ?_;rintro e z ⟨t,rfl,B,o⟩;go_wp2;go_ret;exact⟨rfl,o⟩
   ·rw[Lex.aiu sP];have h:=am sP;clear a f sP;go_enter func57,ntmps57;go_wp2_with fail;refine(NF s m _ d hm).mono ?_;rintro e w1 ⟨rfl,g⟩;have c:=g.symm;subst c;rw[h.out];go_wp2;go_ret;exact⟨rfl,aF _ _⟩
  ·rw[Lex.Ru (by rw[Lex.df];omega)];have v:decide ((s.size:Int)<=12)=ak:=(by simp;omega);clear a;go_enter func57,ntmps57;go_wp2;go_ret;exact⟨rfl,aF _ _⟩
theorem Lr (c a:Int)(ba:Nat)(w:au)(b:w.heap[ba]? =Z (M #[A I a] 3)):
 aC prog 96 #[A I c,aB (Z (Y ba 0 U))] w fun e w'=>e=aE (.tuple #[O U 0 0,.agg #[A I c,A I a]])/\Bl w w':=by
 have d:=cell_of_one b;have f:=J b;clear b;go_enter func96,ntmps96;go_wp2;go_region;all_goals (try go_wp2)
 all_goals exact bodyPost_ret (v:=.tuple #[O U 0 0,.agg #[A I c,A I a]]) (by simp[results,results96,go_sem]) rfl ⟨rfl,((aF _ _).alloc (aD _) _).drew⟩
structure AD (s:Bt)(w wr:au)(v:aw)(a f:Nat)(acc:List Lex.Tok):Prop where
 own:wr.ownsRow (w.heap.size+2) 81 3 v acc.length (Lex.cellsOf acc)
 res:wr.heap[w.heap.size]? =Z (M #[A I 0,A I 0] 30)
 qP:wr.heap[w.heap.size+1]? =Z (M #[A I (a:Int)] 3)
 ff:Bl w wr
 kO:w.heap.size+2<=wr.heap.size
 len:acc.length<=600
 mw:a<=s.size
 all:Lex.jK s.data.toList=Lex.lZ s.data.toList (f+1) a acc
 fuel:s.size<a+(f+1)
theorem aiU (s:Bt)(w:au)(a:Lex.jK s.data.toList=Lex.lZ s.data.toList (s.size+1) 0 []):
 AD s w ((w.alloc (M #[A I 0,A I 0] 30)).alloc (M #[A I 0] 3)) (O U 0 0) 0 s.size []:=
 ⟨World.ownsRow_nil _ _ _ _,cR (cu _ _ _ rfl),cu _ _ _ (by simp),((aF _ _).alloc (aD _) _).alloc (by simp) _,by simp,by simp,by simp,a,by omega⟩
theorem Yv {b:Nat}{acc:List Lex.Tok}(h:AD s w wr v a f acc)(c:b<=s.size)(e:a<=b)
 (d:a+Lex.dJ ak (s.data.toList.drop a)=b+Lex.dJ ak (s.data.toList.drop b)):AD s w (wr.setCell (Y (w.heap.size+1) 0 U) (A I (b:Int))) v b f acc:=
 ⟨ownsRow_setCell_below h.own (by show w.heap.size+1<_;omega) _,nz h.res (by show w.heap.size≠w.heap.size+1;omega),one_setCell h.qP,h.ff.setCell (by show w.heap.size<=w.heap.size+1;omega) _,by have:=h.kO;simpa[World.setCell] using this,h.len,c,h.all.trans (Lex.afb d),by have:=h.fuel;omega⟩
theorem aiV {acc:List Lex.Tok}(h:AD s w wr v a f acc)(b:Bl wr w1):w1.ownsRow (w.heap.size+2) 81 3 v acc.length (Lex.cellsOf acc):=by
 refine h.own.kept (row:=U) ⟨b.os,b.tape,b.output,b.size,fun k c _=>b.block k c⟩ ?_;cases hv:v.ownBlock
 ·exact .inl rfl
 ·exact .inr (by simp)
theorem aiW {t:Bt}{c:au}{i:Obj}{k:Int}{acc:List Lex.Tok}(h:AD s w wr v a (f+1) acc)(d:Bl wr w1)
 (j:k≠0) (o:0<t.size) (l:a+t.size<=s.size) (m:Lex.mu s.data.toList a=(k,a,t.data.toList,0,a+t.size)) (hf:¬acc.length=600)
 (n:c.ownsRow (w.heap.size+2) 81 3 v' (acc.length+1) (Lex.cellsOf acc++[A I k,A I (a:Int),H t])) (e:(w1.alloc i).grownBy c v.ownBlock):
 AD s w (c.setCell (Y (w.heap.size+1) 0 U) (A I ((a+t.size:Nat):Int))) v' (a+t.size) f (acc++[(k,a,t.data.toList)]):=by
 have p:=h.kO;have q:(w1.alloc i).heap.size=w1.heap.size+1:=(by simp);have r:=d.size;have u:=e.size;have low:∀b x,b<w.heap.size+2->wr.heap[b]? =Z x->c.heap[b]? =Z x:=fun b x y hx=>by
  rw[e.block b (by omega) ?_]
  ·exact cR ((d.block b (by omega)).trans hx)
  ·intro g;have:=(h.own.lt _ g.symm).1;omega
 refine⟨?_,nz (low _ _ (by omega) h.res) (by show w.heap.size≠w.heap.size+1;omega),one_setCell (low _ _ (by omega) h.qP),?_,by simp[World.setCell];omega,by have:=h.len;simp;omega,l,h.all.trans (Lex.M1 m j hf),by have:=h.fuel;omega⟩
 ·rw[Lex.abR];have:=ownsRow_setCell_below (a:=(Y (w.heap.size+1) 0 U)) n (by show w.heap.size+1<_;omega) (A I ((a+t.size:Nat):Int));simpa using this
 ·exact(((h.ff.trans (d.mono (by omega))).alloc (by omega) _).grown e (by omega) (fun k g=>by have:=(h.own.lt _ g).1;omega)).setCell (by show w.heap.size<=w.heap.size+1;omega) _
namespace Lex
def Gx:List (Lu):=[[38,38],[124,124],[61,61],[33,61],[60,61],[62,61]]
def GZ:List (Lu):=[[43],[45],[42],[47],[37],[60],[62],[33],[40],[41],[123],[125],[44],[59],[58],[61]]
def tH:List (Lu):=Gx++GZ
def pick (l t w:Lu):Lu:=if Lib.hasPrefix l w=ap/\t.length<w.length then w else t
def vP (l:Lu)(k:Nat):Lu:=(tH.take k).foldl (pick l) []
theorem apE (l:Lu)(a:k<tH.length):vP l (k+1)=pick l (vP l k) tH[k]:=by
 unfold vP;rw[List.take_succ_eq_append_getElem a,List.foldl_append];rfl
theorem agE {w:Lu}(h:Lib.hasPrefix l w=ap):w=l.take w.length:=by
 have:w<+:l:=(by simpa[Lib.hasPrefix] using h);exact(List.prefix_iff_eq_take.1 this)
theorem Ra (l:Lu)(n:Nat)(W:List (Lu))(f:∀w∈W,w.length=n)(t:Lu):W.foldl (pick l) t=if t.length<n/\W.any (fun w=>Lib.hasPrefix l w)=ap then l.take n else t:=by
 induction W generalizing t with
 | nil=>simp
 | cons w r c=>
  have b:=f w (by simp);have d:∀w∈r,w.length=n:=fun x hx=>f x (by simp[hx]);rw[List.foldl_cons];by_cases a:Lib.hasPrefix l w=ap
  ·have g:=agE a;rw[b] at g;by_cases hn:t.length<n
   ·have e:pick l t w=w:=(by unfold pick;rw[if_pos ⟨a,by rw[b];exact hn⟩]);rw[e,c d,if_neg (by rw[b];omega),if_pos ⟨hn,by simp[a]⟩];exact g
   ·have e:pick l t w=t:=(by unfold pick;rw[if_neg (by rw[b];exact fun h=>hn h.2)]);rw[e,c d,if_neg (fun h=>hn h.1),if_neg (fun h=>hn h.1)]
  ·have i:Lib.hasPrefix l w=ak:=(by simpa using a);have e:pick l t w=t:=(by unfold pick;rw[if_neg (fun h=>a h.1)]);rw[e,c d];simp[i]
theorem aef (l:Lu):Gx.any (fun w=>Lib.hasPrefix l w)=mO (l.take 2):=by
 have e:∀p q:UInt8,Lib.hasPrefix l [p,q]=(l.take 2==[p,q]):=by
  intro p q
  match l with
  |[]=>simp[Lib.hasPrefix]
  |[x]=>
   simp only[Lib.hasPrefix,List.isPrefixOf_cons_cons,List.isPrefixOf_cons_nil,Bool.and_false]
   symm
   rw[beq_eq_false_iff_ne];simp
  | x::y::r=>
   rw[Bool.eq_iff_iff];simp only[Lib.hasPrefix,List.isPrefixOf_cons_cons,List.isPrefixOf_nil_left,Bool.and_true,Bool.and_eq_true,beq_iff_eq,List.take_succ_cons,List.take_zero,List.cons.injEq,and_true];constructor;all_goals rintro⟨rfl,rfl⟩;exact⟨rfl,rfl⟩
 simp only[Gx,List.any_cons,List.any_nil,e,mO,Bool.or_false,Bool.or_assoc]
theorem ahR (l:Lu):GZ.any (fun w=>Lib.hasPrefix l w)=rG (c0 l):=by
 match l with
 |[]=>decide
 | x::r=>
  have e:∀p:UInt8,Lib.hasPrefix (x::r) [p]=((x.toNat:Int)==(p.toNat:Int)):=(by intro p;rw[Bool.eq_iff_iff];simp only[Lib.hasPrefix,List.isPrefixOf_cons_cons,List.isPrefixOf_nil_left,Bool.and_true,beq_iff_eq,Int.natCast_inj,UInt8.toNat_inj];exact eq_comm);simp only[GZ,List.any_cons,List.any_nil,e,Bool.or_false];show _=rG (x.toNat:Int);simp[rG,Bool.or_assoc]
theorem apG (l:Lu):vP l 22=jp l:=by
 have h:vP l 22=GZ.foldl (pick l) (Gx.foldl (pick l) []):=(by unfold vP;rw[show tH.take 22=tH from rfl,tH,List.foldl_append]);have t2:Gx.foldl (pick l) []=if mO (l.take 2)=ap then l.take 2 else[]:=(by rw[Ra l 2 Gx (by decide),aef];cases mO (l.take 2)<;>simp);rw[h,t2];unfold jp;cases h2:mO (l.take 2) with
 | true=>
  have a:¬(l.take 2).length<1:=(by intro b;have:l.take 2=[]:=List.length_eq_zero_iff.1 (by omega);rw[this] at h2;cases h2);rw[if_pos rfl,Ra l 1 GZ (by decide),if_neg (fun h=>a h.1)];simp
 | false=>
  rw[if_neg (by simp),Ra l 1 GZ (by decide),ahR];cases rG (c0 l)<;>simp
theorem apF (l:Lu)(k:Nat):(vP l k).length<=2:=by
 have h:∀(a:List (Lu)) (t:Lu),(∀w∈a,w.length<=2)->t.length<=2->(a.foldl (pick l) t).length<=2:=by
  intro a;induction a with
  | nil=>intro t _ b;exact b
  | cons w r d=>
   intro t c b;rw[List.foldl_cons];refine d _ (fun x hx=>c x (by simp[hx])) ?_;unfold pick;split
   ·exact c w (by simp)
   ·exact b
 refine h _ _ (fun w e=> ?_) (by simp);have f:∀w∈tH,w.length<=2:=(by decide);exact f w (List.mem_of_mem_take e)
end Lex
end Go.Proofs.YtoiiahpdbcokaaaGreatDoor
