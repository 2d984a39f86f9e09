/- The document's own reader: wrong, skip, need, name. And more of the same. -/
import Derived.Test.YtoiiahpdbcokaaaGreatDoorZA
import Derived.Defers
import Derived.Recover
import Derived.Shelf.Abstract
import Derived.Laws.EntriesVeiled
namespace Go.Proofs.YtoiiahpdbcokaaaGreatDoor
open Go.Value renaming int -> A, slice -> O, string -> H, pointer -> aB
open Go.IntKind renaming i64 -> I
open _root_.Option renaming none -> U, some -> Z
open Go.Addr renaming mk -> Y
open Go.Obj renaming cells -> M
open Go renaming lt_of_block -> J, World -> au, Value -> aw, Calls -> aC
open _root_.Nat renaming le_refl -> aD, le_trans -> fC
open Go.Ending renaming returned -> aE
open Go.RowKit.Below renaming refl -> aF, heap_setCell -> dL
open _root_.Array renaming getElem?_modify -> dM
open Go.World renaming cell? -> aN, setCell -> bw
open _root_.Bool renaming false -> ak, true -> ap
open _root_.List renaming length_append -> iG
open Go.RowKit renaming Hid -> ah
open _root_.Go.Proofs.Tryz
set_option maxRecDepth 100000
set_option maxHeartbeats 8000000
open Go.RowKit
open ag (Tok nx bI aO gg ba)
variable {W a w w' w1 Q:au} {B b N d e k m n rb sz X:Nat} {f lv v x G F C x3 x4 x5 x6 y y0 y1 y2 y3 y4 y5 y6 z:aw} {al bl c p R:Int} {ts:List Tok} {o:Obj} {s:Lu} {S:Np} {L:Lv}
theorem zn (w:au)(m:Nat):Bl w (w.drewN m):=⟨rfl,rfl,rfl,aD _,fun _ _=>rfl⟩
def Dx (w:au)(tb e:Nat)(ts:List Tok)(v:aw)(k:Nat)(c p bl al cd:Int)(w':au):Prop:=
 w.grownBy w' (Z tb)/\Tx w' tb e ts v ts.length (if c=0 then cd else c) (if c=0 then(bI e (ts.drop k):Int) else p) bl al
theorem Cz {k':Nat}(h:W.heap[X]? =Z (M (pw v k e c p bl al) 102)):(W.setCell (Y X 1 U) (A I (k':Int))).heap[X]? =Z (M (pw v k' e c p bl al) 102):=by
 simp only[bw,dM,h];simp[pw]
theorem WF {c' p':Int}(h:W.heap[X]? =Z (M (pw v k e c p bl al) 102)):((W.setCell (Y X 3 U) (A I c')).setCell (Y X 4 U) (A I p')).heap[X]? =Z (M (pw v k e c' p' bl al) 102):=by
 simp only[bw,dM,h];simp[pw]
theorem wT (a:Int)(h:Tx w X e ts v k c p bl al):
 aC prog 47 #[aB (Z (Y X 0 U)),A I a] w fun x w'=>x=aE (.tuple #[])/\Dx w X e ts v k c p bl al a w':=by
 obtain⟨C,K,L,N,P,Q,R⟩:=h.cells;have S:=h.free 1;have T:=h.free 3;have V:=h.free 4;have W:=h.lt;have d:ah (Tx w X e ts v k c p bl al):=h;obtain⟨lo,b,ad,ae,j,l,o⟩:=h.row;obtain⟨n,hn⟩:∃n,n=ts.length:=⟨_,rfl⟩;have hf:=h.jZ;have xA:=h.kO;rw[<-hn] at j l hf;have g:ah (n=ts.length):=hn;rw[j] at C;by_cases r:c=0
 ·subst r;by_cases hk:k<n
  ·have i:k<ts.length:=(by omega);obtain⟨E,_,a3⟩:=l (by omega);have F:=(o k i).2.1;have s:ah (bI e (ts.drop k)=ts[k].2.1):=TZ i;obtain⟨t1,z⟩:∃t1,t1=ts[k].2.1:=⟨_,rfl⟩;rw[<-z] at F s;have G:decide ((k:Int)<(n:Int))=ap:=(by simp;omega);have m:ah (∀q,Dx w X e ts v k 0 p bl al a ((((w.drewN q).setCell (Y X 3 U) (A I a)).setCell (Y X 4 U) (A I (t1:Int))).setCell (Y X 1 U) (A I (n:Int)))):=fun q=>by
    have f:w.grownBy ((((w.drewN q).setCell (Y X 3 U) (A I a)).setCell (Y X 4 U) (A I (t1:Int))).setCell (Y X 1 U) (A I (n:Int))) (Z X):=(by refine eR ?_ rfl _;refine eR ?_ rfl _;refine eR ?_ rfl _;exact FC (zn w q));refine⟨f,?_⟩;rw[if_pos rfl,if_pos rfl,s.out,<-g.out];have t:(w.drewN q).heap[X]? =Z (M (pw v k e 0 p bl al) 102):=d.bE;have u:=WF (c':=a) (p':=(t1:Int)) t;have y:=Cz (k':=n) u;exact d.kept f y (by rw[g.out];exact aD _) d.kO
   subst E;clear h l o hn z i j;go_enter func47,ntmps47;go_wp2
   go_quiet (fail)
   go_wp2
   go_quiet (fail)
   go_wp2
   go_end0
   exact⟨rfl,m.out _⟩
  ·have i:ts.length<=k:=(by omega);have s:ah (bI e (ts.drop k)=e):=acl i;have G:decide ((k:Int)<(n:Int))=ak:=(by simp;omega);have m:ah (∀q,Dx w X e ts v k 0 p bl al a ((((w.drewN q).setCell (Y X 3 U) (A I a)).setCell (Y X 4 U) (A I (e:Int))).setCell (Y X 1 U) (A I (n:Int)))):=fun q=>by
    have f:w.grownBy ((((w.drewN q).setCell (Y X 3 U) (A I a)).setCell (Y X 4 U) (A I (e:Int))).setCell (Y X 1 U) (A I (n:Int))) (Z X):=(by refine eR ?_ rfl _;refine eR ?_ rfl _;refine eR ?_ rfl _;exact FC (zn w q));refine⟨f,?_⟩;rw[if_pos rfl,if_pos rfl,s.out,<-g.out];have t:(w.drewN q).heap[X]? =Z (M (pw v k e 0 p bl al) 102):=d.bE;have u:=WF (c':=a) (p':=(e:Int)) t;have y:=Cz (k':=n) u;exact d.kept f y (by rw[g.out];exact aD _) d.kO
   clear h l o hn i j;go_enter func47,ntmps47;go_wp2
   go_quiet (fail)
   go_wp2
   go_end0
   exact⟨rfl,m.out _⟩
 ·have KO:(c==0)=ak:=(by simpa using r);have B:ah (¬c=0):=r;have m:ah (Dx w X e ts v k c p bl al a (w.setCell (Y X 1 U) (A I (n:Int)))):=(by have f:w.grownBy (w.setCell (Y X 1 U) (A I (n:Int))) (Z X):=eR (jh _ _) rfl _;refine⟨f,?_⟩;rw[if_neg B.out,if_neg B.out,<-g.out];exact d.kept f (Cz (k':=n) d.bE) (by rw[g.out];exact aD _) d.kO);clear h l o hn j r;go_enter func47,ntmps47;go_wp2
  go_end0
  exact⟨rfl,m.out⟩
def SkP (w:au)(tb e:Nat)(ts:List Tok)(v:aw)(k:Nat)(c p bl al:Int)(r:Bool)(w':au):Prop:=
 w.grownBy w' (Z tb)/\(r=ap->k<ts.length)/\Tx w' tb e ts v (if r=ap then k+1 else k) c p bl al
theorem vl (s:Lu)(h:Tx w X e ts v k c p bl al):
 aC prog 50 #[aB (Z (Y X 0 U)),H (ba s)] w fun x w'=>x=aE (.bool (gg s (ts.drop k)))/\SkP w X e ts v k c p bl al (gg s (ts.drop k)) w':=by
 have b:=rC s h;have q:ah (Tx w X e ts v k c p bl al):=h;have B:k<=100000:=fC h.le h.jZ;obtain⟨r,d⟩:∃r,r=gg s (ts.drop k):=⟨_,rfl⟩;have t:ah (r=gg s (ts.drop k)):=d;rw[<-d] at b⊢;obtain⟨j,l⟩:∃j,j=ba s:=⟨_,rfl⟩;rw[<-l] at b⊢;clear h d l;go_enter func50,ntmps50;go_wp2_with fail;refine b.mono ?_;rintro x w1 ⟨rfl,f⟩;have a:ah (Tx w1 X e ts v k c p bl al):=q.later f;have m:ah (Bl w w1):=f;clear f b;cases r with
 | false=>
  go_wp2;go_ret;exact⟨rfl,FC m.out,fun h=>(by cases h),a.out⟩
 | true=>
  obtain⟨C,E,_⟩:=a.cells;have F:=a.free 1;have G:=a.lt;have n:k<ts.length:=(by apply Classical.byContradiction;intro K;have g:=t.out;rw[List.drop_of_length_le (by omega)] at g;have:gg s []=ak:=(by simp[gg,nx]);rw[this] at g;cases g);have i:ah (w.grownBy (w1.setCell (Y X 1 U) (A I ((k+1:Nat):Int))) (Z X)/\Tx (w1.setCell (Y X 1 U) (A I ((k+1:Nat):Int))) X e ts v (k+1) c p bl al):=(by have u:w1.grownBy (w1.setCell (Y X 1 U) (A I ((k+1:Nat):Int))) (Z X):=eR (jh _ _) rfl _;have y:w.grownBy (w1.setCell (Y X 1 U) (A I ((k+1:Nat):Int))) (Z X):=eR (FC m.out) rfl _;exact⟨y,a.kept u (Cz (k':=k+1) a.bE) (by omega) a.kO⟩);have z:=am n;have o:((k+1:Nat):Int)=(k:Int)+1:=(by omega);rw[o] at i;clear n o;go_wp2;go_ret;exact⟨rfl,i.1,fun _=>z.out,i.2⟩
structure On (w:au)(tb e:Nat)(ts:List Tok)(v:aw)(bl al:Int)(rest:List Tok):Prop where
 ex:∃k p,Tx w tb e ts v k 0 p bl al/\rest=ts.drop k
structure Um (w:au)(tb e:Nat)(ts:List Tok)(v:aw)(bl al:Int)(c:Int)(p:Nat):Prop where
 ne:c≠0
 st:Tx w tb e ts v ts.length c (p:Int) bl al
theorem On.later {rest:List Tok}(h:On w X e ts v bl al rest)(a:Bl w w'):On w' X e ts v bl al rest:=by
 obtain⟨k,p,b,c⟩:=h.ex;exact⟨k,p,b.later a,c⟩
theorem Um.later {p:Nat}(h:Um w X e ts v bl al c p)(a:Bl w w'):Um w' X e ts v bl al c p:=⟨h.ne,h.st.later a⟩
theorem drop_tail:(ts.drop k).tail=ts.drop (k+1):=by simp
def NdP (w:au)(tb e:Nat)(ts:List Tok)(v:aw)(k:Nat)(c p bl al:Int)(r:Bool)(w':au):Prop:=
 w.grownBy w' (Z tb)/\(r=ap->k<ts.length/\Tx w' tb e ts v (k+1) c p bl al)/\(r=ak->Tx w' tb e ts v ts.length (if c=0 then 1 else c) (if c=0 then(bI e (ts.drop k):Int) else p) bl al)
theorem G5 (s:Lu)(h:Tx w X e ts v k c p bl al):
 aC prog 52 #[aB (Z (Y X 0 U)),H (ba s)] w fun x w'=>x=aE (.tuple #[])/\NdP w X e ts v k c p bl al (gg s (ts.drop k)) w':=by
 have a:=vl s h;obtain⟨r,f⟩:=nm (gg s (ts.drop k));rw[<-f] at a⊢;obtain⟨q,g⟩:=nm (ba s);rw[<-g] at a⊢;clear h f g;go_enter func52,ntmps52;go_wp2_with fail;refine a.mono ?_;rintro x w1 ⟨rfl,i⟩;have b:=am i;clear i a;cases r with
 | true=>
  go_wp2
  go_end0
  obtain⟨m,n,o⟩:=b.out;exact⟨rfl,m,fun _=>⟨n rfl,o⟩,fun h=>(by cases h)⟩
 | false=>
  have d:=wT 1 b.2.2;rw[if_neg (by decide)] at d;go_wp2_with fail;refine d.mono ?_;rintro x Q ⟨rfl,j⟩;have l:=am j;clear j d;go_wp2
  go_end0
  exact⟨rfl,b.1.trans l.1,fun h=>(by cases h),fun _=>l.2⟩
def Un (w:au)(tb e:Nat)(ts:List Tok)(v:aw)(k:Nat)(c p bl al:Int)(w':au):Prop:=
 w.grownBy w' (Z tb)/\((nx (ts.drop k)).1=1->k<ts.length/\Tx w' tb e ts v (k+1) c p bl al)/\((nx (ts.drop k)).1≠1->Tx w' tb e ts v ts.length (if c=0 then 1 else c) (if c=0 then(bI e (ts.drop k):Int) else p) bl al)
theorem aiv (h:Tx w X e ts v k c p bl al):
 aC prog 51 #[aB (Z (Y X 0 U))] w fun x w'=>x=aE (H (if(nx (ts.drop k)).1=1 then ba (nx (ts.drop k)).2.2 else⟨#[]⟩))/\Un w X e ts v k c p bl al w':=by
 have b:=peekD h;have f:=am h;have L:=fC h.le h.jZ;obtain⟨t,j⟩:=nm (nx (ts.drop k));have l:=am j.symm;rw[<-j] at b⊢;obtain⟨t0,t1,t2⟩:=t;unfold AY at b;simp only at b⊢;obtain⟨m,u⟩:=nm (ba t2);rw[<-u] at b⊢;clear h j u;by_cases d:t0=1
 ·subst d;rw[if_pos rfl];go_enter func51,ntmps51;go_wp2_with fail;refine b.mono ?_;rintro x w1 ⟨rfl,a⟩;have n:=am (f.later a);obtain⟨N,P,_⟩:=(f.later a).cells;have R:=(f.later a).free 1;have S:=(f.later a).lt;have y:ah (k<ts.length):=by
   show k<ts.length;apply Classical.byContradiction;intro o;have g:=l.out;rw[A9 (by omega)] at g;simp at g
  have i:ah (Un w X e ts v k c p bl al ((w1.setCell (Y X 1 U) (A I ((k+1:Nat):Int))).alloc (M #[A I 1,A I (t1:Int),H m] 81))):=(by have z:w1.grownBy ((w1.setCell (Y X 1 U) (A I ((k+1:Nat):Int))).alloc (M #[A I 1,A I (t1:Int),H m] 81)) (Z X):=(by refine BP ?_ _;exact eR (jh _ _) rfl _);refine⟨(FC a).trans z,fun _=>⟨y.out,n.kept z (cR (Cz (k':=k+1) n.bE)) (by have:=y.out;omega) n.kO⟩,fun o=> ?_⟩;rw[l.out] at o;exact absurd rfl o);have B:((k+1:Nat):Int)=(k:Int)+1:=(by omega);rw[B] at i;clear a b B;go_wp2;go_ret;exact⟨rfl,i.out⟩
 ·have T:(t0 !=1)=ap:=(by simpa using d);have V:(t0==1)=ak:=(by simpa using d);rw[if_neg d];have E:=am d;go_enter func51,ntmps51;go_wp2_with fail;refine b.mono ?_;rintro x w1 ⟨rfl,a⟩;obtain⟨F,q⟩:=nm (w1.alloc (M #[A I t0,A I (t1:Int),H m] 81));have r:Bl w F:=(by rw[q];exact a.alloc a.size _);have C:=wT 1 (f.later r);have G:=am r;have K:=am q;clear a b r q d;go_wp2_with fail;rw[<-K.out];refine C.mono ?_;rintro x Q ⟨rfl,s⟩;have i:ah (Un w X e ts v k c p bl al Q):=(by refine⟨(FC G.out).trans s.1,fun g=> ?_,fun _=>s.2⟩;rw[l.out] at g;exact absurd g E.out);clear s C;go_wp2;go_ret;exact⟨rfl,i.out⟩
def Pu (w:au)(tb e:Nat)(ts:List Tok)(v:aw)(c p bl al:Int)(w':au):Prop:=
 w.grownBy w' (Z tb)/\Tx w' tb e ts v ts.length c p bl al
theorem zZ (s:Lu)(ts:List Tok):gg s (ts.drop ts.length)=ak:=by
 rw[List.drop_of_length_le (aD _)];simp[gg,nx]
theorem akn (b:c≠0)(h:Tx w X e ts v ts.length c p bl al):
 aC prog 54 #[aB (Z (Y X 0 U))] w fun x w'=>x=aE (O U 0 0)/\Pu w X e ts v c p bl al w':=by
 have hn:=G5 [123] h;rw[zZ] at hn;have m:(c !=0)=ap:=(by simpa using b);have j:=am b;clear h b;go_enter func54,ntmps54;go_wp2_with fail;refine hn.mono ?_;rintro x w1 ⟨rfl,d⟩;have a:=d.2.2 rfl;rw[if_neg j.out,if_neg j.out] at a;have k:=am d.1;have f:=vl [125] a;rw[zZ] at f;have n:=am a;clear d hn a;go_wp2_with fail;refine f.mono ?_;rintro x Q ⟨rfl,g⟩;have i:=am g.2.2;have o:=i.cells;have q:=i.lt;have l:ah (Pu w X e ts v c p bl al Q):=⟨k.trans g.1,i.out⟩;clear g f;go_wp2;go_ret;exact⟨rfl,l.out⟩
theorem aqc (b:c≠0)(h:Tx w X e ts v ts.length c p bl al):
 aC prog 106 #[aB (Z (Y X 0 U))] w fun x w'=>x=aE (O U 0 0)/\Pu w X e ts v c p bl al w':=by
 have hn:=G5 [40] h;rw[zZ] at hn;have m:(c !=0)=ap:=(by simpa using b);have j:=am b;clear h b;go_enter func106,ntmps106;go_wp2_with fail;refine hn.mono ?_;rintro x w1 ⟨rfl,d⟩;have a:=d.2.2 rfl;rw[if_neg j.out,if_neg j.out] at a;have k:=am d.1;have f:=vl [41] a;rw[zZ] at f;have n:=am a;clear d hn a;go_wp2_with fail;refine f.mono ?_;rintro x Q ⟨rfl,g⟩;have i:=am g.2.2;have o:=i.cells;have q:=i.lt;have l:ah (Pu w X e ts v c p bl al Q):=⟨k.trans g.1,i.out⟩;clear g f;go_wp2;go_ret;exact⟨rfl,l.out⟩
def tI (w:au)(b:Nat)(x0 x1 x2 x3 x4 x5 x6:aw):au:=
 ((((((w.setCell (Y b 0 U) x0).setCell (Y b 1 U) x1).setCell (Y b 2 U) x2).setCell (Y b 3 U) x3).setCell (Y b 4 U) x4).setCell (Y b 5 U) x5).setCell (Y b 6 U) x6
theorem Ls (h:w.heap[b]? =Z (M #[y0,y1,y2,y3,y4,y5,y6] 48))(G F C x3 x4 x5 x6:aw):(tI w b G F C x3 x4 x5 x6).heap[b]? =Z (M #[G,F,C,x3,x4,x5,x6] 48):=by
 simp only[tI,bw,dM,h];rfl
theorem LG (h:Below B a w)(c:B<=b)(G F C x3 x4 x5 x6:aw):Below B a (tI w b G F C x3 x4 x5 x6):=
 ((((((h.setCell c _).setCell c _).setCell c _).setCell c _).setCell c _).setCell c _).setCell c _
theorem Tq (h:w.heap[b]? =Z (M #[y0,y1,y2,y3,y4,y5,y6] 48)):w.cell? (Y b 0 U)=Z y0/\w.cell? (Y b 1 U)=Z y1/\w.cell? (Y b 2 U)=Z y2/\w.cell? (Y b 3 U)=Z y3/\w.cell? (Y b 4 U)=Z y4/\w.cell? (Y b 5 U)=Z y5/\w.cell? (Y b 6 U)=Z y6:=by
 simp[aN,h]
def Ac:aw:=.agg #[A I 0,A I 0,A I 0,A I 0,H ⟨#[]⟩,O U 0 0,O U 0 0]
theorem X0 (g:c≠0)(h:Tx w X e ts v ts.length c p bl al):
 aC prog 150 #[aB (Z (Y X 0 U))] w fun x w'=>x=aE Ac/\Bl w w':=by
 have u:=h.cells;have y:=h.lt;have z:(c !=0)=ap:=(by simpa using g);clear h g;go_enter func150,ntmps150;go_wp2;obtain⟨b,d⟩:=nm (w.alloc (M #[aB (Z (Y X 0 U))] 43));have i:Bl w b:=(by rw[d];exact(aF w.heap.size w).alloc (aD _) _);have k:b.heap.size=w.heap.size+1:=(by rw[d];exact Array.size_push _);rw[<-d];obtain⟨j,f⟩:=nm (b.alloc (M #[A I 0,A I 0,A I 0,A I 0,H ⟨#[]⟩,O U 0 0,O U 0 0] 48));have l:Bl w j:=(by rw[f];exact i.alloc i.size _);have a:j.heap[w.heap.size+1]? =Z (M #[A I 0,A I 0,A I 0,A I 0,H ⟨#[]⟩,O U 0 0,O U 0 0] 48):=(by rw[f,<-k];exact cu _ _ _ rfl);rw[<-f];have m:=cl a 0 rfl;have n:=cl a 1 rfl;have o:=cl a 2 rfl;have q:=cl a 3 rfl;have r:=cl a 4 rfl;have s:=cl a 5 rfl;have t:=cl a 6 rfl;exact bodyPost_ret (v:=Ac) (by simp[results,results150,go_sem,m,n,o,q,r,s,t,Ac]) rfl ⟨rfl,l⟩
theorem anj (E:c≠0)(h:Tx w X e ts v ts.length c p bl al):
 aC prog 105 #[aB (Z (Y X 0 U))] w fun x w'=>x=aE Ac/\Bl w w':=by
 have ad:=am h;have HC:=am E;have aK:=h.lt;clear h E;go_enter func105,ntmps105;obtain⟨F,q⟩:=nm (w.alloc (M #[A I 0,A I 0,A I 0,A I 0,H ⟨#[]⟩,O U 0 0,O U 0 0] 48));have l:Bl w F:=(by rw[q];exact(aF w.heap.size w).alloc (aD _) _);have G:F.heap.size=w.heap.size+1:=(by rw[q];exact Array.size_push _);have u:=ad.later l;have K:=X0 HC.out u;have L:=am q;have ae:=am l;have af:=am G;have uL:=am u;clear q l G u;go_wp2_with fail;rw[<-L.out];refine K.mono ?_;rintro x w1 ⟨rfl,N⟩;have r:=am N;clear K N;unfold Ac;go_wp2_with fail;obtain⟨k,f8⟩:=nm (((w1.alloc (M #[A I 0,A I 0,A I 0,A I 0,H ⟨#[]⟩,O U 0 0,O U 0 0] 48)).alloc (M #[O (Z (Y w1.heap.size 0 U)) 1 1] 46)).alloc (M #[O U 0 0] 72));rw[<-f8];have iw:Bl w1 k/\k.heap[w1.heap.size]? =Z (M #[A I 0,A I 0,A I 0,A I 0,H ⟨#[]⟩,O U 0 0,O U 0 0] 48)/\k.heap[w1.heap.size+1]? =Z (M #[O (Z (Y w1.heap.size 0 U)) 1 1] 46)/\k.heap[w1.heap.size+1+1]? =Z (M #[O U 0 0] 72):=by
  obtain⟨y,s⟩:=nm (w1.alloc (M #[A I 0,A I 0,A I 0,A I 0,H ⟨#[]⟩,O U 0 0,O U 0 0] 48));obtain⟨P,m⟩:=nm (y.alloc (M #[O (Z (Y w1.heap.size 0 U)) 1 1] 46));rw[<-s,<-m] at f8;have R:y.heap.size=w1.heap.size+1:=(by rw[s];exact Array.size_push _);have s2:P.heap.size=w1.heap.size+1+1:=(by rw[<-R,m];exact Array.size_push _);have S:Bl w1 y:=(by rw[s];exact(aF _ w1).alloc (aD _) _);have T:Bl w1 P:=(by rw[m];exact S.alloc S.size _);have b3:Bl w1 k:=(by rw[f8];exact T.alloc T.size _);refine⟨b3,?_,?_,?_⟩
  ·rw[f8];refine cR ?_;rw[m];refine cR ?_;rw[s];exact cu _ _ _ rfl
  ·rw[f8];refine cR ?_;rw[m,<-R];exact cu _ _ _ rfl
  ·rw[f8,<-s2];exact cu _ _ _ rfl
 have z:=af.out;have xr:=r.size;obtain⟨n,V,W,B⟩:=iw;have HT:=am ((uL.later r.out).later n);have o:=peekD HT.out;rw[A9 (aD _)] at o;unfold AY at o;have l:ba []=⟨#[]⟩:=rfl;simp only[l] at o;have ai:w.heap.size+1<=w1.heap.size:=(by rw[<-z];exact xr);have HG:=am ((ae.trans (r.mono (by rw[z];omega))).trans (n.mono (by omega)));have h0:k.heap[w.heap.size]? =Z (M #[A I 0,A I 0,A I 0,A I 0,H ⟨#[]⟩,O U 0 0,O U 0 0] 48):=(by rw[n.block _ (by omega),r.block _ (by rw[z];omega),L.out];exact cu _ _ _ rfl);have ec:=n.size;clear f8 n;refine wp_loop_once ?_;go_wp2_with fail;refine o.mono ?_;rintro x Q ⟨rfl,d⟩;have l2:=J B;have j0:=(d.block _ (by omega)).trans V;have j1:=(d.block _ (by omega)).trans W;have j2:=(d.block _ (by omega)).trans B;have jr:=(d.block _ (by omega)).trans h0;have l3:=d.size;have kC:=am d;clear d o V W B h0;go_wp2_with fail;obtain⟨f,g⟩:=nm (Q.alloc (M #[A I 0,A I 0,H ⟨#[]⟩] 81));have b:f.heap[w1.heap.size]? =Z (M #[A I 0,A I 0,A I 0,A I 0,H ⟨#[]⟩,O U 0 0,O U 0 0] 48):=(by rw[g];exact cR j0);have i1:f.heap[w1.heap.size+1]? =Z (M #[O (Z (Y w1.heap.size 0 U)) 1 1] 46):=(by rw[g];exact cR j1);have C:f.heap[w1.heap.size+1+1]? =Z (M #[O U 0 0] 72):=(by rw[g];exact cR j2);have a:f.heap[w.heap.size]? =Z (M #[A I 0,A I 0,A I 0,A I 0,H ⟨#[]⟩,O U 0 0,O U 0 0] 48):=(by rw[g];exact cR jr);have ez:ah (Bl w f):=(by rw[g];have h9:=HG.trans (kC.mono (by omega));exact h9.alloc h9.size _)
 rw[<-g];have c1:=cl i1 0 rfl;have c2:=cl C 0 rfl;have e0:=cl b 0 rfl;have e1:=cl b 1 rfl;have e2:=cl b 2 rfl;have e3:=cl b 3 rfl;have e4:=cl b 4 rfl;have e5:=cl b 5 rfl;have e6:=cl b 6 rfl;have r0:=cl a 0 rfl;have r1:=cl a 1 rfl;have r2:=cl a 2 rfl;have r3:=cl a 3 rfl;have r4:=cl a 4 rfl;have r5:=cl a 5 rfl;have r6:=cl a 6 rfl;have f0:∀i,f.frozen? (Y w.heap.size i U)=ak:=fun i=>(by simp[World.frozen?,a]);have f1:=f0 0;have f2:=f0 1;have f3:=f0 2;have f4:=f0 3;have f5:=f0 4;have f6:=f0 5;have f7:=f0 6;have HR:=am a;have l4:=J C;clear g b i1 C a j0 j1 j2 jr;refine wp_loop_once ?_;go_wp2;obtain⟨wz,t⟩:=nm (tI f w.heap.size (A I 0) (A I 0) (A I 0) (A I 0) (H ⟨#[]⟩) (O U 0 0) (O U 0 0));have mV:Bl w wz:=(by rw[t];exact LG ez.out (aD _) _ _ _ _ _ _ _);have j:=Tq (by rw[t];exact Ls HR.out _ _ _ _ _ _ _:wz.heap[w.heap.size]? =Z (M #[A I 0,A I 0,A I 0,A I 0,H ⟨#[]⟩,O U 0 0,O U 0 0] 48));unfold tI at t;rw[<-t];exact bodyPost_ret (v:=Ac) (by simp[results,results105,go_sem,j.1,j.2.1,j.2.2.1,j.2.2.2.1,j.2.2.2.2.1,j.2.2.2.2.2.1,j.2.2.2.2.2.2,Ac]) rfl ⟨rfl,mV⟩
open ag (Tok Po Tr nx bI aO ba aA)
theorem fB (l:Lu):(ba l).toList=l:=by rw[Lex.jU];simp[ba]
theorem TX (l:Lu):(ba l).data.toList=l:=by simp[ba]
theorem akH (s:Bt)(ts:List Tok):((ba (nx ts).2.2).toList==s.toList)=aO s.data.toList ts:=by
 rw[fB,Lex.jU];rfl
theorem Tp (x y z:aw)(w:au):(Instr.field 81 (.agg #[x,y,z]) 0).run prog w=.ok x w:=by kernel_rfl
theorem anh (x y z:aw)(w:au):(Instr.field 81 (.agg #[x,y,z]) 1).run prog w=.ok y w:=by kernel_rfl
theorem BR (x y z:aw)(w:au):(Instr.field 81 (.agg #[x,y,z]) 2).run prog w=.ok z w:=by kernel_rfl
structure Fr (B rb:Nat)(w w':au):Prop where
 os:w'.os=w.os
 tape:w'.tape=w.tape
 output:w'.output=w.output
 size:w.heap.size<=w'.heap.size
 block:∀k,k<B->k≠rb->w'.heap[k]? =w.heap[k]?
theorem Fr.bP (h:w.grownBy w' (Z rb))(a:B<=w.heap.size):Fr B rb w w':=⟨h.os,h.tape,h.output,h.size,fun k b hn=>h.block k (by omega) (by simp;exact hn)⟩
theorem Fr.bm (h:Below B w w'):Fr B rb w w':=⟨h.os,h.tape,h.output,h.size,fun k a _=>h.block k a⟩
theorem Fr.trans {b c:au}(h:Fr B rb a b)(k:Fr B rb b c):Fr B rb a c:=⟨k.os.trans h.os,k.tape.trans h.tape,k.output.trans h.output,fC h.size k.size,fun i d hn=>(k.block i d hn).trans (h.block i d hn)⟩
theorem Fr.grown (h:Fr w.heap.size rb w w'):w.grownBy w' (Z rb):=⟨h.os,h.tape,h.output,h.size,fun k a hn=>h.block k a (fun b=>hn (by rw[b]))⟩
theorem Fr.mono {a:Nat}(h:Fr B rb w w')(b:a<=B):Fr a rb w w':=⟨h.os,h.tape,h.output,h.size,fun k c hn=>h.block k (by omega) hn⟩
def DB {α:Type}(B:Nat)(w:au)(rb e:Nat)(bl pr:Int)(res:aA α)(V:au->α->aw->Prop)(x:Ending)(w':au):Prop:=
 Fr B rb w w'/\((∃a r,res=.ok a r/\∃u v',x=aE u/\V w' a u/\Rd w' rb e bl pr r v')\/(∃c q,res=.no c q/\x=At c q/\∃r v',Rd w' rb e bl pr r v'))
def dS {α:Type}(w:au)(rb e:Nat)(bl pr:Int)(res:aA α)(V:au->α->aw->Prop)(x:Ending)(w':au):Prop:=
 w.grownBy w' (Z rb)/\((∃a r,res=.ok a r/\∃u v',x=aE u/\V w' a u/\Rd w' rb e bl pr r v')\/(∃c q,res=.no c q/\x=At c q/\∃r v',Rd w' rb e bl pr r v'))
theorem dN (o:Option Nat)(h:Bl w w'):w.grownBy w' o:=⟨h.os,h.tape,h.output,h.size,fun k a _=>h.block k a⟩
theorem tJ (c:Int)(h:Rd w rb e bl R ts v):
 aC prog 30 #[aB (Z (Y rb 0 U)),A I c] w fun x w'=>x=At c (bI e ts)/\w'=w:=by
 have a:=am h;clear h;go_enter func30,ntmps30;go_wp2_with (go_at_call 71;refine(EB a.out).mono ?_;rintro x w' ⟨rfl,rfl⟩);exact⟨rfl,rfl,rfl⟩
theorem ui (s:Bt)(h:Rd w rb e bl R ts v):
 aC prog 77 #[aB (Z (Y rb 0 U)),H s] w fun x w'=>x=aE (.bool (aO s.data.toList ts))/\Bl w w':=by
 have a:=am h;have b:=am (akH s ts);have f2:=BR;clear h;go_enter func77,ntmps77;go_wp2_with (go_at_call 31;refine(yr a.out).mono ?_;rintro x w1 ⟨rfl,c⟩);go_ret;exact⟨by rw[<-b.out];rfl,c⟩
theorem WQ (hn:n<=w.heap.size):Below n (w.setCell (Y rb k U) v) (((((w.setCell (Y rb k U) v).setCell (Y n 0 U) x).setCell (Y n 1 U) y).setCell (Y n 2 U) z).alloc o):=
 ((((aF _ _).setCell (aD n) _).setCell (aD n) _).setCell (aD n) _).alloc (by simpa[bw] using hn) _
theorem WO (a:Bl w w1):w.grownBy (((((w1.setCell (Y rb k U) v).setCell (Y w.heap.size 0 U) x).setCell (Y w.heap.size 1 U) y).setCell (Y w.heap.size 2 U) z).alloc o) (Z rb):=
 BP (za (za (za (eR (dN _ a) rfl v) (aD _) _) (aD _) _) (aD _) _) _
theorem vr {t:Tok}{r:List Tok}(h:Rd w rb e bl R (t::r) v):
 aC prog 74 #[aB (Z (Y rb 0 U))] w fun x w'=>x=aE (.agg #[A I t.1,A I (t.2.1:Int),H (ba t.2.2)])/\w.grownBy w' (Z rb)/\∃E,Rd w' rb e bl R r E:=by
 have o:=h.lt;obtain⟨f,g⟩:∃f,f=w.alloc (M #[A I 0,A I 0,H ⟨#[]⟩] 81):=⟨_,rfl⟩;have k:ah (Bl w f):=(by rw[g];exact(aF _ _).alloc (aD _) _);have l:ah (Rd f rb e bl R (t::r) v):=h.keeps k h.lt;clear h;go_enter func74,ntmps74;go_wp2_with fail;rw[<-g];refine(yr l).mono ?_;rintro x w1 ⟨rfl,d⟩;rw[show nx (t::r)=t from rfl];have a:=l.keeps d l.lt;have i:w1.heap[w.heap.size]? =Z (M #[A I 0,A I 0,H ⟨#[]⟩] 81):=(by rw[d.block _ (by rw[g];simp),g];exact cu _ _ _ rfl);have j:=J i;obtain⟨⟨p,q,s⟩,y0,y1,y2⟩:=ox i;obtain⟨b,u,c,rfl,K,L,hm,y,z,B,m⟩:=a.some;obtain⟨c0,N,P,Q⟩:=a.cells;have S:=a.frozen 0;have F:=a.len;have T:=a.lt;have C:ah (Bl w w1):=k.trans (d.mono k.size);unfold maxLen at hm;simp only[List.length_cons] at F;by_cases G:c=1
 ·subst G;obtain rfl:r=[]:=List.length_eq_zero_iff.1 (by omega);have n:ah (Rd (w1.setCell (Y rb 0 U) (O (Z (Y b u U)) 0 0)) rb e bl R [] (O (Z (Y b u U)) 0 0)):=a.step (gj.none _ _ _ _);simp only[List.length_nil,Nat.zero_add] at c0;clear a y z B m d i;go_wp2;exact bodyPost_ret (v:=.agg #[A I t.1,A I (t.2.1:Int),H (ba t.2.2)]) (by simp[results,results74,go_sem,p,q,s,j]) rfl ⟨rfl,WO C,_,n.keeps (WQ (Nat.le_of_lt j)) o⟩
 ·have n:=am (a.step m);clear a y z B m d i;go_wp2;exact bodyPost_ret (v:=.agg #[A I t.1,A I (t.2.1:Int),H (ba t.2.2)]) (by simp[results,results74,go_sem,p,q,s,j]) rfl ⟨rfl,WO C,_,n.keeps (WQ (Nat.le_of_lt j)) o⟩
theorem Zj (a:s≠[])(h:aO s ts=ap):∃t r,ts=t::r:=by
 cases ts with
 | nil=>
  simp only[aO,nx,beq_iff_eq] at h;exact absurd h.symm a
 | cons t r=>exact⟨t,r,rfl⟩
theorem EA (s:Bt)(i:s.data.toList≠[])(h:Rd w rb e bl R ts v):
 aC prog 79 #[aB (Z (Y rb 0 U)),H s] w fun x w'=>x=aE (.bool (aO s.data.toList ts))/\w.grownBy w' (Z rb)/\∃j,Rd w' rb e bl R (if aO s.data.toList ts=ap then ts.tail else ts) j:=by
 have b:ah (Rd _ _ _ _ _ _ _):=h;clear h;cases hi:aO s.data.toList ts with
 | false=>
  go_enter func79,ntmps79;go_wp2_with fail;refine(ui _ b).mono ?_;rintro x w1 ⟨rfl,a⟩;rw[hi];have c:ah (Rd _ _ _ _ _ _ _):=b.keeps a b.lt;have d:ah (Below _ _ _):=a;clear a;go_wp2;go_ret;exact⟨rfl,dN _ d,_,c.out⟩
 | true=>
  obtain⟨t,r,rfl⟩:=Zj i hi;go_enter func79,ntmps79;go_wp2_with fail;refine(ui _ b).mono ?_;rintro x w1 ⟨rfl,a⟩;rw[hi];have c:ah (Rd _ _ _ _ _ _ _):=b.keeps a b.lt;have d:ah (w.grownBy w1 (Z rb)):=dN _ a;clear a;go_wp2_with fail;refine(vr c).mono ?_;rintro x Q ⟨rfl,f,m,g⟩;have k:=am g;have l:=am f;clear g f;go_wp2;go_ret;exact⟨rfl,cU d l,_,k.out⟩
theorem iI (s:Bt)(k:s.data.toList≠[])(h:Rd w rb e bl R ts v):
 aC prog 72 #[aB (Z (Y rb 0 U)),H s] w (dS w rb e bl R (ag.aR e s.data.toList ts) fun _ a u=>u=A I (a:Int)):=by
 have c:ah (Rd _ _ _ _ _ _ _):=h;have f1:=anh;clear h;cases hi:aO s.data.toList ts with
 | false=>
  have f:ah (ag.aR e s.data.toList ts=.no 1 (bI e ts)):=(by show _=_;unfold ag.aR;rw[if_neg (by simp[hi])]);go_enter func72,ntmps72;go_wp2_with fail;refine(ui _ c).mono ?_;rintro x w1 ⟨rfl,b⟩;rw[hi];have d:ah (Rd _ _ _ _ _ _ _):=c.keeps b c.lt;have g:ah (Below _ _ _):=b;clear b;go_wp2_with fail;refine(tJ _ d).mono ?_;rintro x Q ⟨rfl,l⟩;subst l;exact⟨rfl,dN _ g,.inr ⟨_,_,f.out,rfl,_,_,d.out⟩⟩
 | true=>
  obtain⟨t,r,rfl⟩:=Zj k hi;have f:ah (ag.aR e s.data.toList (t::r)=.ok t.2.1 r):=(by show _=_;unfold ag.aR;rw[if_pos hi];rfl);go_enter func72,ntmps72;go_wp2_with fail;refine(ui _ c).mono ?_;rintro x w1 ⟨rfl,b⟩;rw[hi];have d:ah (Rd _ _ _ _ _ _ _):=c.keeps b c.lt;have g:ah (w.grownBy w1 (Z rb)):=dN _ b;clear b;go_wp2_with fail;refine(vr d).mono ?_;rintro x Q ⟨rfl,i,o,j⟩;have m:=am j;have n:=am i;clear j i;go_wp2;go_ret;exact⟨cU g n,.inl ⟨_,_,f.out,_,_,rfl,rfl,m.out⟩⟩
theorem vR (l:Lu):(ba l).size=l.length:=by simp[ba,ByteArray.size]
theorem uh (h:Rd w rb e bl R ts v):
 aC prog 73 #[aB (Z (Y rb 0 U))] w (dS w rb e bl R (ag.bR e ts) fun _ a u=>u=H a/\a.size<=maxLen):=by
 have b:ah (Rd _ _ _ _ _ _ _):=h;have f0:=Tp;have f2:=BR;clear h;by_cases c:(nx ts).1=1
 ·obtain⟨t,r,rfl⟩:∃t r,ts=t::r:=by
   cases ts with
   | nil=>cases c
   | cons t r=>exact⟨t,r,rfl⟩
  have j:t.1=1:=c;have m:(t.1 !=1)=ak:=(by simp[j]);have g:ah (ag.bR e (t::r)=.ok (ba t.2.2) r):=(by show _=_;unfold ag.bR;rw[if_pos c];rfl);have n:ah ((ba t.2.2).size<=maxLen):=(by show _<=_;have:=b.OU.1;rw[vR];unfold maxLen;omega);clear c j;go_enter func73,ntmps73;go_wp2_with fail;refine(yr b).mono ?_;rintro x w1 ⟨rfl,d⟩;rw[show nx (t::r)=t from rfl];have f:ah (Rd _ _ _ _ _ _ _):=b.keeps d b.lt;have i:ah (w.grownBy w1 (Z rb)):=dN _ d;clear d;go_wp2_with fail;refine(vr f).mono ?_;rintro x Q ⟨rfl,k,s,l⟩;have o:ah (Rd _ _ _ _ _ _ _):=l;have p:ah (w1.grownBy Q (Z rb)):=k;clear l k;go_wp2;go_ret;exact⟨cU i p,.inl ⟨_,_,g.out,_,_,rfl,⟨rfl,n.out⟩,o.out⟩⟩
 ·have m:((nx ts).1 !=1)=ap:=(by simp[c]);have g:ah (ag.bR e ts=.no 1 (bI e ts)):=(by show _=_;unfold ag.bR;rw[if_neg c]);clear c;go_enter func73,ntmps73;go_wp2_with fail;refine(yr b).mono ?_;rintro x w1 ⟨rfl,d⟩;have f:ah (Rd _ _ _ _ _ _ _):=b.keeps d b.lt;have i:ah (w.grownBy w1 (Z rb)):=dN _ d;clear d;go_wp2_with fail;refine(tJ _ f).mono ?_;rintro x Q ⟨rfl,q⟩;subst q;exact⟨rfl,i.out,.inr ⟨_,_,g.out,rfl,_,_,f.out⟩⟩
theorem Rd.W6 (h:Rd w rb e bl R ts v)(n:Int):Rd (w.setCell ⟨rb,3,.none⟩ (A I n)) rb e bl n ts v:=by
 refine⟨?_,h.row.keeps ⟨by simp[bw],fun b a _=>dL _ _ _ _ (by show b≠rb;omega)⟩,h.len,h.Lk,h.lv.keeps (by simp[bw]) fun b a=>dL _ _ _ _ (by show b≠rb;omega)⟩;simp[bw,dM,h.bE]
theorem Rd.W7 (h:Rd w rb e bl R ts v)(n:Int):Rd (w.setCell ⟨rb,2,.none⟩ (A I n)) rb e n R ts v:=by
 refine⟨?_,h.row.keeps ⟨by simp[bw],fun b a _=>dL _ _ _ _ (by show b≠rb;omega)⟩,h.len,h.Lk,h.lv.keeps (by simp[bw]) fun b a=>dL _ _ _ _ (by show b≠rb;omega)⟩;simp[bw,dM,h.bE]
theorem afV (h:Rd w rb e bl 12 ts v):
 aC prog 128 #[aB (Z (Y rb 0 U)),aB (Z (Y rb 3 U))] w fun x w'=>x=At 2 (bI e ts)/\Bl w w':=by
 have f:∀(a:Fn) (first b:Av) (w:au),(Instr.makeFunc a first b).run prog w=.ok (.func a first b) w:=fun _ _ _ _=>rfl;obtain⟨c0,g,i,j⟩:=h.cells;have k:=h.lt;have c:ah (∀o,Rd (w.alloc o) rb e bl 12 ts v):=fun o=>h.keeps ((aF _ _).alloc (aD _) o) h.lt;clear h;go_enter func128,ntmps128;go_wp2_with fail;refine(tJ _ (c.out _)).mono ?_;rintro x Q ⟨rfl,d⟩;subst d;exact⟨rfl,rfl,(aF _ _).alloc (aD _) _⟩
theorem afU (h:Rd w rb e bl d ts v)(f:d<12):
 aC prog 128 #[aB (Z (Y rb 0 U)),aB (Z (Y rb 3 U))] w fun x w'=>x=aE (.func (.func 177) #[] #[aB (Z (Y w.heap.size 0 U))])/\w.grownBy w' (Z rb)/\w.heap.size<w'.heap.size/\Rd w' rb e bl ((d+1:Nat):Int) ts v/\w'.heap[w.heap.size]? =Z (M #[aB (Z (Y rb 3 U))] 167):=by
 have g:∀(a:Fn) (first b:Av) (w:au),(Instr.makeFunc a first b).run prog w=.ok (.func a first b) w:=fun _ _ _ _=>rfl;obtain⟨c0,i,j,k⟩:=h.cells;have l:=h.frozen 3;have m:=h.lt;have hn:(((d:Nat):Int)==12)=ak:=(by simp;omega);have c:ah (∀o,Rd ((w.setCell (Y rb 3 U) (A I ((d+1:Nat):Int))).alloc o) rb e bl ((d+1:Nat):Int) ts v):=fun o=>(h.W6 _).keeps ((aF _ _).alloc (aD _) o) (by simpa[bw] using h.lt);clear h;go_enter func128,ntmps128;go_wp2;go_ret;refine⟨rfl,BP (eR (jh _ _) rfl _) _,by simp[bw],c.out _,cu _ _ _ (by simp[bw])⟩
theorem Xl (u:FrameMode)(h:Rd w rb e bl ((d+1:Nat):Int) ts v)(a:w.heap[N]? =Z (M #[aB (Z (Y rb 3 U))] 167))(f:d<=12):
 CallsD prog 177 #[aB (Z (Y N 0 U))] u w fun x b w'=>b=u/\(x=aE (.tuple #[])/\w'=w.setCell (Y rb 3 U) (A I d)/\Rd w' rb e bl d ts v):=by
 obtain⟨c0,g,i,j⟩:=h.cells;have k:=h.frozen 3;have l:=h.lt;have m:w.cell? (Y N 0 U)=Z (aB (Z (Y rb 3 U))):=(by simp[aN,a]);have c:ah (Rd (w.setCell (Y rb 3 U) (A I (d:Int))) rb e bl d ts v):=h.W6 _;clear h
 go_enter_d func177,ntmps177
 go_wp2
 go_end0
 exact⟨rfl,rfl,c.out⟩
structure ng {α:Type}(El:au->(Np)->α->Lv->Prop)(sz:Nat):Prop where
 keeps:∀{w w':au} {S:Np} {a:α} {cs:Lv},El w S a cs->aP S w w'->El w' S a cs
 mono:∀{w:au} {S S':Np} {a:α} {cs:Lv},El w S a cs->(∀b,S b->b<w.heap.size->S' b)->El w S' a cs
 len:∀{w:au} {S:Np} {a:α} {cs:Lv},El w S a cs->cs.length=sz
 one:∀{w:au} {S:Np} {a:α} {cs:Lv},El w S a cs->∀u∈cs,u.oneCell'=ap
def SB (B:Nat)(v:aw):Np:=fun b=>B<=b/\Z b≠v.ownBlock
structure bO {α:Type}(El:au->(Np)->α->Lv->Prop)(w:au)(B e sz:Nat)(v:aw)(acc:List α):Prop where
 ex:∃css:List (Lv),w.ownsRow B e sz v acc.length css.flatten/\css.length=acc.length/\∀i (h:i<acc.length) (h':i<css.length),El w (SB B v) acc[i] css[i]
theorem bO.nil {a:Type}(El:au->(Np)->a->Lv->Prop)(w:au)(B e sz:Nat):bO El w B e sz (O U 0 0) []:=
 ⟨[],World.ownsRow_nil _ _ _ _,rfl,fun i b=>by simp at b⟩
theorem bO.slice {a:Type}{El:au->(Np)->a->Lv->Prop}{acc:List a}(h:bO El w B e sz v acc):∃b c,v=O b acc.length c:=by
 obtain⟨k,d,_⟩:=h.ex;rcases d.2 with⟨f,i⟩|⟨g,j,l,rfl,_⟩
 ·exact⟨U,0,by rw[f,i]⟩
 ·exact⟨_,j,rfl⟩
theorem bO.grown {a:Type}{El:au->(Np)->a->Lv->Prop}{acc:List a}(K:ng El sz)(h:bO El w B e sz v acc)(c:w.grownBy w' (Z rb))(o:rb<B):bO El w' B e sz v acc:=by
 obtain⟨f,d,g,j⟩:=h.ex;refine⟨f,d.kept c ?_,g,fun i l m=>K.keeps (j i l m) (aP.bP c fun b n=> ?_)⟩
 ·cases hv:v.ownBlock with
  | none=>exact .inl rfl
  | some k=>
   right
   have:=(d.lt k hv).1;simp;omega
 ·have:=n.1;simp;omega
theorem bO.below {b:Type}{El:au->(Np)->b->Lv->Prop}{acc:List b}(K:ng El sz)(h:bO El w B e sz v acc)(a:Bl w w'):bO El w' B e sz v acc:=by
 obtain⟨c,d,f,g⟩:=h.ex;refine⟨c,d.kept (row:=U) ⟨a.os,a.tape,a.output,a.size,fun k j _=>a.block k j⟩ ?_,f,fun i l m=>K.keeps (g i l m) (aP.bm a)⟩;cases hv:v.ownBlock
 ·exact .inl rfl
 ·exact .inr (by simp)
theorem bO.one {d:Type}{El:au->(Np)->d->Lv->Prop}{a:d}{xs:Av}(K:ng El sz)(h:El w (fun b=>B<=b) a xs.toList)(f:B<=w.heap.size):bO El (w.alloc (M xs e)) B e sz (O (Z (Y w.heap.size 0 U)) 1 1) [a]:=by
 have c:=K.len h;refine⟨[xs.toList],⟨by simpa using c,.inr ⟨w.heap.size,1,xs,rfl,f,heap_alloc_new w _,by simp,by simp[maxLen],by simpa using c,by simp only[Nat.one_mul,List.flatten_cons,List.flatten_nil,List.append_nil,List.length_singleton];rw[List.take_of_length_le (by omega)]⟩⟩,rfl,fun i g l=> ?_⟩;have j:i=0:=(by simp at g;omega);subst j;refine K.keeps (w:=w) (K.mono h fun b k c=>⟨k,?_⟩) (aP.bm ((aF _ _).alloc (aD _) _));simp only[Value.ownBlock,ne_eq,Option.some.injEq];omega
theorem bO.add {g:Type}{El:au->(Np)->g->Lv->Prop}{d:aw}{acc:List g}{a:g}{xs:Lv}{css:List (Lv)}(K:ng El sz)
 (n:∀k,v.ownBlock=Z k->k<w.heap.size) (j:css.length=acc.length) (o:∀i (h:i<acc.length) (y:i<css.length),El w1 (SB B v) acc[i] css[i])
 (hx:El w1 (fun b=>w.heap.size<=b) a xs) (z:B<=w.heap.size)
 (p:Q.ownsRow B e sz d (acc.length+1) (css.flatten++xs)) (q:w1.grownBy Q v.ownBlock) (f:d.ownBlock=v.ownBlock\/d.ownBlock=Z w1.heap.size):bO El Q B e sz d (acc++[a]):=by
 have l:∀{b:g} {L:Lv},El w1 (SB B v) b L->El Q (SB B d) b L:=fun{b L} hb=>by
  have r:El w1 (fun b=>SB B v b∧Z b≠d.ownBlock) b L:=K.mono hb fun k c C=>⟨c,by
   rcases f with f | f
   ·rw[f];exact c.2
   ·rw[f];simp;omega⟩
  exact K.mono (K.keeps r (aP.bP q fun k c=>c.1.2)) fun k c _=>⟨c.1.1,c.2⟩
 refine⟨css++[xs],by simpa using p,by simp[j],fun i s E=> ?_⟩;by_cases m:i<acc.length
 ·have:=l (o i m (by omega));rw[List.getElem_append_left m,List.getElem_append_left (by omega)];exact this
 ·have t:i=acc.length:=(by simp at s;omega);subst t;have u:El w1 (SB B v) a xs:=K.mono hx fun k c _=>⟨by omega,fun x=>by have:=n k x.symm;omega⟩;have:=l u;rw[List.getElem_append_right (aD _),List.getElem_append_right (by omega)];simpa[j] using this
theorem bO.row {d:Type}{El:au->(Np)->d->Lv->Prop}{acc:List d}(K:ng El sz)(h:bO El w B e sz v acc):
 ∃css,gj w (fun b=>B<=b) sz v css/\css.length=acc.length/\∀i (h:i<acc.length) (l:i<css.length),El w (fun b=>B<=b) acc[i] css[i]:=by
 obtain⟨css,j,f,g⟩:=h.ex;refine⟨css,gj.Nc j f.symm (fun i a=>K.len (g i (by omega) a)) (fun b c=>c),f,fun i a k=>K.mono (g i a k) fun b c _=>c.1⟩
def lenOf:aw->Nat
 | O _ n _=>n
 | _=>0
theorem bO.len {a:Type}{El:au->(Np)->a->Lv->Prop}{acc:List a}(h:bO El w B e sz v acc):lenOf v=acc.length:=by
 obtain⟨b,c,rfl⟩:=h.slice;rfl
def jm (_:au)(_:Np)(a:Bt)(cs:Lv):Prop:=cs=[H a]/\a.size<=maxLen
def pk (w:au)(S:Np)(a:ag.Po)(cs:Lv):Prop:=∃u,cs=[H a.1,u]/\a.1.size<=maxLen/\kv w S u a.2
def od (w:au)(S:Np)(a:ag.Tr)(cs:Lv):Prop:=aS w S a cs
theorem fe:ng jm 1:=⟨fun h _=>h,fun h _=>h,fun h=>by rw[h.1];rfl,fun h b a=>by rw[h.1,List.mem_singleton] at a;subst a;rfl⟩
theorem gj.val {css:List (Lv)}(h:gj w S sz v css):∃a c,v=O a css.length c:=by
 obtain⟨a,b,e,c,d,_⟩:=h;exact⟨a,c,d⟩
theorem qU:ng pk 2:=by
 refine⟨fun h k=> ?_,fun h k=> ?_,fun h=> ?_,fun h d f=> ?_⟩
 ·obtain⟨d,a,e,b⟩:=h;exact⟨d,a,e,b.keeps k⟩
 ·obtain⟨d,a,e,b⟩:=h;exact⟨d,a,e,b.mono k⟩
 ·obtain⟨d,a,e,b⟩:=h;rw[a];rfl
 ·obtain⟨v,a,e,b⟩:=h;obtain⟨i,c,g⟩:=b.row.val;rw[a] at f;simp only[List.mem_cons,List.not_mem_nil,or_false] at f;rcases f with rfl | rfl
  ·rfl
  ·rw[g];rfl
theorem dw.val {l:List ag.Po}(h:dw w S v l):∃a c,v=O a l.length c:=by
 obtain⟨f,b,d,g⟩:=h.ex;obtain⟨a,c,e⟩:=d.val;refine⟨a,c,?_⟩;rw[e,(M8 b).1]
theorem oQ:ng od 7:=by
 refine⟨fun h k=>aS.keeps h k,fun h k=>aS.mono h k,fun h=>aS.len h,fun h g a=> ?_⟩;cases h with
 | mk i b d j l=>
  obtain⟨m,c,e⟩:=b.val;obtain⟨n,o,f⟩:=d.val;subst e f;simp only[List.mem_cons,List.not_mem_nil,or_false] at a;rcases a with rfl | rfl | rfl | rfl | rfl | rfl | rfl<;>rfl
theorem bO.strs {l:List Bt}(h:bO jm w B e 1 v l):kv w (fun b=>B<=b) v l:=by
 obtain⟨d,f,g,c⟩:=h.row fe;have j:d=wU l:=(by refine List.ext_getElem (by simp[wU,g]) fun i a m=> ?_;rw[(c i (by omega) a).1];simp[wU]);refine⟨by rw[<-j];exact f,fun s k=> ?_⟩;obtain⟨i,a,rfl⟩:=List.mem_iff_getElem.1 k;exact(c i a (by omega)).2
theorem bO.label {l:List ag.Po}(h:bO pk w B e 2 v l):dw w (fun b=>B<=b) v l:=by
 obtain⟨c,j,k,m⟩:=h.row qU;have d:∀i (a:i<l.length),∃g,c[i]'(by omega)=[H l[i].1,g]/\l[i].1.size<=maxLen/\kv w (fun b=>B<=b) g l[i].2:=fun i a=>m i a (by omega)
 let f:Nat->aw:=fun i=>if a:i<l.length then(d i a).choose else .bool ak
 have hf:∀i (a:i<l.length),c[i]'(by omega)=[H l[i].1,f i]/\l[i].1.size<=maxLen/\kv w (fun b=>B<=b) (f i) l[i].2:=fun i a=>by
  have:=(d i a).choose_spec;simp only[f,a,dif_pos];exact this
 refine⟨⟨(List.range l.length).map f,by simp,?_,fun i a n=> ?_⟩,fun p o=> ?_⟩
 ·have q:c=yx l ((List.range l.length).map f):=(by refine List.ext_getElem (by simp[yx,k]) fun i a n=> ?_;rw[(hf i (by omega)).1];simp[yx]);rw[<-q];exact j
 ·simpa using(hf i a).2.2
 ·obtain⟨i,a,rfl⟩:=List.mem_iff_getElem.1 o;exact(hf i a).2.1
theorem bO.trees {l:List ag.Tr}(h:bO od w B e 7 v l):aqw w (fun b=>B<=b) v l:=by
 obtain⟨a,c,d,f⟩:=h.row oQ;exact⟨⟨a,c,d,f⟩⟩
open ag (Tok nx bI aO ba aA)
theorem vx (h:w.ownsRow B e sz v n L)(a:w.grownBy w' (Z rb))(b:rb<B):w'.ownsRow B e sz v n L:=h.kept a (by
 cases hv:v.ownBlock with
 | none=>exact .inl rfl
 | some k=>
  right
  have:=(h.lt k hv).1
  simp;omega)
theorem nt (h:w.ownsRow B e sz v n L):∃a c,v=O a n c:=by
 rcases h.2 with⟨b,d⟩|⟨g,f,i,rfl,_⟩
 ·exact⟨U,0,by rw[b,d]⟩
 ·exact⟨_,f,rfl⟩
def se {α:Type}(El:au->(Np)->α->Lv->Prop)(w:au)(rb e:Nat)(bl pr:Int)(B ty sz most n:Nat)(css:List (Lv))(lv:aw)(ts:List Tok)(pt:aA α)(x:Ending)(w':au):Prop:=
 (n=most∧x=At 2 (bI e ts)∧w'=w)∨(n≠most∧((∃c q,pt=.no c q∧x=At c q∧w.grownBy w' (Z rb)∧∃r v',Rd w' rb e bl pr r v')∨
  ∃a r u v' xs w1,pt=.ok a r∧x=aE u∧w.grownBy w1 (Z rb)∧El w1 (fun b=>w.heap.size≤b) a xs∧w1.grownBy w' lv.ownBlock∧w'.ownsRow B ty sz u (n+1) (css.flatten++xs)∧(u.ownBlock=lv.ownBlock∨u.ownBlock=Z w1.heap.size)∧Rd w1 rb e bl pr r v'))
theorem JJ {j:Type}{El:au->(Np)->j->Lv->Prop}{m o:Nat}{css:List (Lv)}{p:aA j}{acc:List j}{x:Ending}(K:ng El sz)(h:Rd w rb e bl R ts v)(z:rb<B)(n:B<=w.heap.size)(C:w.ownsRow B m sz lv acc.length css.flatten)(E:css.length=acc.length)(F:∀i (h:i<acc.length) (W:i<css.length),El w (SB B lv) acc[i] css[i])
 (G:se El w rb e bl R B m sz o acc.length css lv ts p x w'):DB B w rb e bl R (if acc.length=o then .no 2 (bI e ts) else p.bind fun a r=>.ok (acc++[a]) r) (fun w' l u=>bO El w' B m sz u l) x w':=by
 rcases G with⟨hf,rfl,rfl⟩|⟨hf,⟨c,q,rfl,rfl,f,r,s,L⟩|⟨a,r,u,s,X,w1,rfl,rfl,f,hx,d,N,P,Q⟩⟩
 ·rw[if_pos hf];exact⟨Fr.bm (aF _ _),.inr ⟨_,_,rfl,rfl,_,_,h⟩⟩
 ·rw[if_neg hf];exact⟨Fr.bP f n,.inr ⟨_,_,rfl,rfl,_,_,L⟩⟩
 ·rw[if_neg hf];have t:=C.lt;have hz:=f.size;have g:Below B w1 w':=⟨d.os,d.tape,d.output,d.size,fun k y=>d.block k (by omega) (fun S=>by have:=(t k S.symm).1;omega)⟩;refine⟨(Fr.bP f n).trans (Fr.bm g),.inl ⟨acc++[a],r,rfl,u,s,rfl,?_,Q.keeps g z⟩⟩;exact bO.add K (w:=w) (w1:=w1) (fun k y=>(t k y).2) E (fun i T V=>K.keeps (F i T V) (aP.bP f fun b g=>by have:=g.1;simp;omega)) hx n N d P
theorem Tryz.J4:(prog.info? 48).map (fun i=>(i.zero,i.size,i.bytes))=Z (Z (.agg #[A I 0,A I 0,A I 0,A I 0,H ⟨#[]⟩,O U 0 0,O U 0 0]),7,96):=by kernel_rfl
def VE (B:Nat)(w':au)(a:Tr)(u:aw):Prop:=∃(z0 z1 z2 z3:Int) (z4:Bt) (z5:Oa) (m5 d5:Nat) (z6:Oa) (m6 d6:Nat),u=.agg #[A I z0,A I z1,A I z2,A I z3,H z4,O z5 m5 d5,O z6 m6 d6]/\od w' (fun b=>B<=b) a [A I z0,A I z1,A I z2,A I z3,H z4,O z5 m5 d5,O z6 m6 d6]
theorem JH (w:au)(e:TypeId):∀j u,([G,F,C,x3,x4,x5,x6]:Lv)[j]? =Z u->(w.alloc (M #[G,F,C,x3,x4,x5,x6] e)).cell? (((Y w.heap.size 0 U):Addr).add j)=Z u:=by
 intro j u a;have b:(w.alloc (M #[G,F,C,x3,x4,x5,x6] e)).cell? (Y w.heap.size j U)=(#[G,F,C,x3,x4,x5,x6]:Av)[j]? :=World.cell?_alloc_at _ _ _ _ (by simp);have c:((Y w.heap.size 0 U):Addr).add j=(Y w.heap.size j U):=(by simp[Addr.add];intro h;exact h.symm);rw[c,b];simpa using a
theorem aiF (h:Rd w rb e bl R ts v){css:List (Lv)}(G:w.ownsRow B 48 7 lv n css.flatten)(jw:rb<B)(L:B<=w.heap.size)(d:Nat)(hm:d<=1000)(nX:n<=d)
 (g:Nat) (fs N:Av) (eg:∀args w,(callFunc g args).run prog w=.ok (.enter g args) w) (i:aA Tr) (P:aC prog g (fs++N) w (dS w rb e bl R i (VE w.heap.size))):
 aC prog 237 #[aB (Z (Y rb 0 U)),lv,A I (d:Int),.func (.func g) fs N] w (se od w rb e bl R B 48 7 d n css lv ts i):=by
 obtain⟨K,c,rfl⟩:=nt G;have ad:ah (Rd w rb e bl R ts v):=h;have HO:ah (w.ownsRow B 48 7 (O K n c) n css.flatten):=G;have HB:ah (B<=w.heap.size):=L;clear h G L;by_cases hf:n=d
 ·have hi:((n:Int)==(d:Int))=ap:=(by simp[hf]);have j:ah (n=d):=hf;clear hf P;go_enter func237,ntmps237;go_wp2_with fail;refine(tJ _ ad).mono ?_;rintro x Q ⟨rfl,bS⟩;subst bS;exact⟨rfl,.inl ⟨j.out,rfl,rfl⟩⟩
 ·have hi:((n:Int)==(d:Int))=ak:=(by simp;omega);have j:ah (n≠d):=hf;obtain⟨i0,gT,cL,bZ,bA⟩:=info_parts Tryz.J4;have jO:n<1000:=(by omega);clear hf;go_enter func237,ntmps237;go_wp2_with fail;refine P.mono ?_;rintro x w1 ⟨f,⟨a,r,k,ae,l,rfl,⟨m,o,p,s,t,u,y,d5,z,C,d6,rfl,hx⟩,E⟩|⟨cc,q,k,rfl,r,l,E⟩⟩
  ·have HG:ah (w.grownBy w1 (Z rb)):=f;have sk:ah (i=.ok a r):=k;have S:ah (Rd w1 rb e bl R r l):=E;have T:ah (od w1 (fun b=>w.heap.size<=b) a [A I m,A I o,A I p,A I s,H t,O u y d5,O z C d6]):=hx;have HP:ah (w1.ownsRow B 48 7 (O K n c) n css.flatten):=vx HO f jw;have xr:w.heap.size<=w1.heap.size:=f.size;clear f E hx k;go_wp2_with (at_builtin;refine wpList_append_own_at _ rfl _ _ 46 rfl B 48 i0 (.agg #[A I 0,A I 0,A I 0,A I 0,H ⟨#[]⟩,O U 0 0,O U 0 0]) 7 96 underlying46 gT cL bZ bA rfl (by decide) _ _ _ rfl (World.ownsRow.alloc HP.out _) (Y w1.heap.size 0 U) 1 1 [A I m,A I o,A I p,A I s,H t,O u y d5,O z C d6] rfl rfl ?c1 ?c2 ?c3 ?c4 ?c5 ?_);case c1=>exact JH _ _
   case c2=>exact oQ.one T
   case c3=>unfold maxLen;omega
   case c4=>omega
   case c5=>have:=HB.out;simp;omega
   ·intro V Q W X _ gB;have F:Bl w1 (w1.alloc (M #[A I m,A I o,A I p,A I s,H t,O u y d5,O z C d6] 48)):=(aF _ _).alloc (aD _) _;have HN:ah (se od w rb e bl R B 48 7 d n css (O K n c) ts i (aE V) Q):=.inr ⟨j.out,.inr ⟨a,r,V,l,[A I m,A I o,A I p,A I s,H t,O u y d5,O z C d6],_,sk.out,rfl,HG.trans (dN _ F),oQ.keeps T (aP.bm F),X,W,by simpa using gB,S.keeps F S.lt⟩⟩;clear W X gB F;go_wp2;go_ret;exact HN.out
  ·exact⟨rfl,.inr ⟨j.out,.inl ⟨cc,q,k,rfl,f,r,l,E⟩⟩⟩
theorem aiL (h:Rd w rb e bl R ts v){acc:List Tr}(k:bO od w B 48 7 lv acc)(f:rb<B)(i:B<=w.heap.size)(b:Nat)(hm:b<=1000)(m:acc.length<=b)
 (g:Nat) (fs c:Av) (n:∀args w,(callFunc g args).run prog w=.ok (.enter g args) w) (d:aA Tr) (o:aC prog g (fs++c) w (dS w rb e bl R d (VE w.heap.size))):
 aC prog 237 #[aB (Z (Y rb 0 U)),lv,A I (b:Int),.func (.func g) fs c] w (DB B w rb e bl R (if acc.length=b then .no 2 (bI e ts) else d.bind fun a r=>.ok (acc++[a]) r) (fun w' l u=>bO od w' B 48 7 u l)):=by
 obtain⟨t,j,p,q⟩:=k.ex;exact(aiF h j f i b hm m g fs c n d o).mono fun x w' s=>JJ oQ h f i j p q s
structure DX (w:au)(bx rb:Nat)(s:Bt)(f:aw):Prop where
 b0:w.heap[bx]? =Z (M #[aB (Z (Y rb 0 U))] 39)
 b1:w.heap[bx+1]? =Z (M #[H s] 9)
 b2:w.heap[bx+2]? =Z (M #[f] 113)
theorem DX.fr {s:Bt}(h:DX w N rb s f)(k:Fr B rb w w')(a:N+2<B)(b:rb<N):DX w' N rb s f:=
 ⟨(k.block _ (by omega) (by omega)).trans h.b0,(k.block _ (by omega) (by omega)).trans h.b1,(k.block _ (by omega) (by omega)).trans h.b2⟩
theorem DX.cells {s:Bt}(h:DX w N rb s f):w.cell? (Y N 0 U)=Z (aB (Z (Y rb 0 U)))/\w.cell? (Y (N+1) 0 U)=Z (H s)/\w.cell? (Y (N+2) 0 U)=Z f:=by
 have:=h.b0;have:=h.b1;have:=h.b2;refine⟨?_,?_,?_⟩<;>simp[aN, *]
theorem fa {e:TypeId}(h:w.heap[b]? =Z (M #[G,F,C,x3,x4,x5,x6] e)):(w.cell? (Y b 0 U)=Z G/\w.cell? (Y b 1 U)=Z F/\w.cell? (Y b 2 U)=Z C/\w.cell? (Y b 3 U)=Z x3/\w.cell? (Y b 4 U)=Z x4/\w.cell? (Y b 5 U)=Z x5/\w.cell? (Y b 6 U)=Z x6)/\w.frozen? (Y b 0 U)=ak/\w.frozen? (Y b 1 U)=ak/\w.frozen? (Y b 2 U)=ak/\w.frozen? (Y b 3 U)=ak/\w.frozen? (Y b 4 U)=ak/\w.frozen? (Y b 5 U)=ak/\w.frozen? (Y b 6 U)=ak:=by
 refine⟨⟨?_,?_,?_,?_,?_,?_,?_⟩,?_,?_,?_,?_,?_,?_,?_⟩<;>simp[aN,World.frozen?,h]
theorem ET:w.grownBy ((((((((w).setCell (Y n 0 U) y0).setCell (Y n 1 U) y1).setCell (Y n 2 U) y2).setCell (Y n 3 U) y3).setCell (Y n 4 U) y4).setCell (Y n 5 U) y5).setCell (Y n 6 U) y6) (Z n):=by
 refine eR ?_ rfl _;refine eR ?_ rfl _;refine eR ?_ rfl _;refine eR ?_ rfl _;refine eR ?_ rfl _;refine eR ?_ rfl _;refine eR ?_ rfl _;exact jh _ _
theorem aig (h:Rd w rb e bl R ts v)(s:Bt)(hs:s.data.toList≠[])(hi:aO s.data.toList ts=ap)(g:Nat)(fs lb:Av)(eg:∀args w,(callFunc g args).run prog w=.ok (.enter g args) w)(d:DX w N rb s (.func (.func g) fs lb))(Aj:rb<N)
 (P:List Tok->aA Tr) (hp:∀w' l,w.grownBy w' (Z rb)->Rd w' rb e bl R ts.tail l->aC prog g (fs++lb) w' (dS w' rb e bl R (P ts.tail) (VE w'.heap.size))):
 aC prog 238 #[aB (Z (Y N 0 U)),aB (Z (Y (N+1) 0 U)),aB (Z (Y (N+2) 0 U))] w (dS w rb e bl R (P ts.tail) (VE w.heap.size)):=by
 obtain⟨w0,m⟩:=nm (w.alloc (M #[A I 0,A I 0,A I 0,A I 0,H ⟨#[]⟩,O U 0 0,O U 0 0] 48));have lP:=J d.b2;have K:=eS m;have fE:=uJ m;have bU:=aa m;have bG:=d.fr (Fr.bm K) lP Aj;have k0:=bG.cells;have j0:=d.cells.1;have j1:=d.cells.2.1;have HM:ah (ag.aR e s.data.toList ts=.ok (nx ts).2.1 ts.tail):=(by show _=_;unfold ag.aR;rw[if_pos hi]);have ad:=am (h.keeps K h.lt);have dz:=h.lt;have YT:N<w.heap.size:=(by omega);have YS:N+1<w.heap.size:=(by omega);clear h d hi;go_enter func238,ntmps238;go_wp2_with fail;rw[<-m];refine(iI s hs ad).mono ?_;rintro x w1 ⟨n,⟨a,r,c,ae,l,rfl,rfl,L⟩|⟨cc,q,c,rfl,r,l,L⟩⟩
 ·rw[HM.out] at c;cases c;have S:=Fr.bP n (aD _);have aJ:=bG.fr S (by omega) Aj;have m2:=aJ.cells.2.2;have T:=cU (dN _ K) n;have HP:=hp w1 l T L;have gC:=am ((S.block _ (by omega) (by omega)).trans bU);have HG:=am T;have bZ:=n.size;clear n S aJ T L k0 j0 j1 hp;go_wp2_with fail;refine HP.mono ?_;rintro x Q ⟨o,⟨a,r,c,ae,v2,rfl,⟨p,t,u,y,z,B,C,d5,E,F,d6,rfl,hx⟩,j⟩|⟨cc,q,c,rfl,r,v2,j⟩⟩
  ·have V:=(o.block _ (by omega) (by simp;omega)).trans gC;have iq:=J V;obtain⟨f,p0,p1,p2,p3,p4,p5,p6⟩:=fa V;have dX:=am (cU HG o);have eF:ah (P ts.tail=.ok a r):=c;have H2:=am j;have HX:=am hx;obtain⟨G,W⟩:=nm ((((((((Q).setCell (Y w.heap.size 0 U) (A I p)).setCell (Y w.heap.size 1 U) (A I t)).setCell (Y w.heap.size 2 U) (A I u)).setCell (Y w.heap.size 3 U) (A I y)).setCell (Y w.heap.size 4 U) (H z)).setCell (Y w.heap.size 5 U) (O B C d5)).setCell (Y w.heap.size 6 U) (O E F d6));have i:Q.grownBy G (Z w.heap.size):=(by rw[W];exact ET);have HV:ah (od G (fun b=>w.heap.size<=b) a [A I p,A I t,A I u,A I y,H z,O B C d5,O E F d6]):=oQ.mono (oQ.keeps hx (aP.bP i fun b d=>by simp;omega)) fun b d _=>(by omega);have X:Below w.heap.size Q G:=⟨i.os,i.tape,i.output,i.size,fun k hk=>i.block k (by omega) (by simp;omega)⟩;have Cf:ah (w.grownBy G (Z rb)):=((Fr.bP dX (aD _)).trans (Fr.bm X)).grown;have jA:ah (Rd _ _ _ _ _ _ _):=j.keeps X (by omega);have tX:=am W;clear o c j hx V HP i X W;go_wp2;refine bodyPost_ret (v:=.agg #[A I p,A I t,A I u,A I y,H z,O B C d5,O E F d6]) (by simp[results,results238,go_sem,f.1,f.2.1,f.2.2.1,f.2.2.2.1,f.2.2.2.2.1,f.2.2.2.2.2.1,f.2.2.2.2.2.2]) rfl ?_;rw[<-tX.out];exact⟨Cf.out,.inl ⟨_,_,eF.out,_,_,rfl,⟨p,t,u,y,z,B,C,d5,E,F,d6,rfl,HV.out⟩,jA.out⟩⟩
  ·exact⟨rfl,cU HG o,.inr ⟨_,_,c,rfl,_,_,j⟩⟩
 ·rw[HM.out] at c;cases c
structure Ur (w wr:au)(rb e:Nat)(bl pr:Int)(s:Bt)(most:Nat)(P:List Tok->aA Tr)(all:aA (List Tr))(f lv:aw)(acc:List Tr)(ts:List Tok)(v:aw):Prop where
 own:bO od wr (w.heap.size+3) 48 7 lv acc
 rd:Rd wr rb e bl pr ts v
 fr:Fr w.heap.size rb w wr
 box:DX wr w.heap.size rb s f
 kO:w.heap.size+3<=wr.heap.size
 len:acc.length<=most
 eq:all=ag.dU e s.data.toList P (most - acc.length) acc ts
theorem ajp (h:Rd w rb e bl R ts v)(s:Bt)(hs:s.data.toList≠[])(b:Nat)(hm:b<=1000)(qk:0<b)(g:Nat)(fs i:Av)(eg:∀args w,(callFunc g args).run prog w=.ok (.enter g args) w)
 (P:List Tok->aA Tr) (L:∀w' f C,w.grownBy w' (Z rb)->Rd w' rb e bl R f C->aC prog g (fs++i) w' (dS w' rb e bl R (P f) (VE w'.heap.size))):
 aC prog 225 #[aB (Z (Y rb 0 U)),H s,A I (b:Int),.func (.func g) fs i] w (dS w rb e bl R (ag.dT e s.data.toList b P ts) (fun w' l u=>bO od w' (w.heap.size+3) 48 7 u l)):=by
 have lO:∀(W:Fn) (first X:Av) (w:au),(Instr.makeFunc W first X).run prog w=.ok (.func W first X) w:=fun _ _ _ _=>rfl;have o:=h.lt;obtain⟨N,p⟩:=nm (((w.alloc (M #[aB (Z (Y rb 0 U))] 39)).alloc (M #[H s] 9)).alloc (M #[.func (.func g) fs i] 113));have E:Bl w N:=(by rw[p];exact(((aF _ _).alloc (aD _) _).alloc (by simp) _).alloc (by simp;omega) _);have fE:=Pp p;have bG:DX N w.heap.size rb s (.func (.func g) fs i):=(by rw[p];exact⟨cR (cR (cu _ _ _ rfl)),cR (cu _ _ _ (by simp)),cu _ _ _ (by simp)⟩);have kj:=am bG;have tw:=am E;have oD:=L N ts v (dN _ E) (h.keeps E h.lt);have HP:=am L;clear h L bG E;go_enter func225,ntmps225;go_wp2_with fail;rw[<-p];refine oD.mono ?_;rintro x w1 ⟨t,⟨a,r,c,u,v1,rfl,⟨z0,z1,z2,z3,z4,z5,m5,d5,z6,m6,d6,rfl,hx⟩,y⟩|⟨cc,q,c,rfl,r,v1,y⟩⟩
 ·have AK:ah (ag.dT e s.data.toList b P ts=ag.dU e s.data.toList P (b - 1) [a] r):=(by show _=_;unfold ag.dT;rw[c];rfl);have HS:ah (Ur w (w1.alloc (M #[A I z0,A I z1,A I z2,A I z3,H z4,O z5 m5 d5,O z6 m6 d6] 48)) rb e bl R s b P (ag.dT e s.data.toList b P ts) (.func (.func g) fs i) (O (Z (Y w1.heap.size 0 U)) 1 1) [a] r v1):=(by have hz:=t.size;refine⟨bO.one oQ (by rw[fE] at hx;exact hx) (by omega),y.keeps ((aF _ _).alloc (aD _) _) y.lt,(Fr.bm tw).trans ((Fr.bP t (by omega)).trans (Fr.bm ((aF _ _).alloc (by omega) _))),?_,by simp;omega,qk,AK.out⟩;exact(kj.fr (Fr.bP t (aD _)) (by omega) o).fr (Fr.bm ((aF _ _).alloc (aD _) _)) (by omega) o);clear t hx y oD c p;go_wp2;go_loopw [9] (fun lv wr=>∃d f C,Ur w wr rb e bl R s b P (ag.dT e s.data.toList b P ts) (.func (.func g) fs i) lv d f C) (fun lv _=>b - lenOf lv);case atStart=>exact⟨_,_,_,HS.out⟩
  case round=>
   obtain⟨d,f,C,k⟩:=hrel;obtain⟨ao,cc,rfl⟩:=k.own.slice;have j:=am k;have k0:=k.box.cells;have Ar:=k.kO;have ad:=k.len;clear k HS;go_wp2_with fail;refine(ui s j.rd).mono ?_;rintro x Q ⟨rfl,n⟩;have S:=am (j.rd.keeps n j.rd.lt);have oE:=am (j.own.below oQ n);have T:=am (j.box.fr (Fr.bm n) (by omega) o);have F:=am (j.fr.trans (Fr.bm (n.mono (by omega))));have bA:=n.size;have i0:=T.cells;clear n k0;cases hi:aO s.data.toList f with
   | false=>
    have G:ah (ag.dT e s.data.toList b P ts=.ok d f):=by
     show _=_;rw[j.eq];cases b - d.length with
     | zero=>unfold ag.dU;rw[if_neg (by simp[hi])]
     | succ m=>unfold ag.dU;rw[if_neg (by simp[hi])]
    clear hi;go_wp2;go_ret;exact⟨F.grown,.inl ⟨_,_,G.out,_,_,rfl,oE.out,S.out⟩⟩
   | true=>
    have kX:w.heap.size+3<=Q.heap.size:=(by omega);have HN:=fun(w':au) (u9:aw) (hg:Q.grownBy w' (Z rb)) (c:Rd w' rb e bl R f.tail u9)=>HP.out w' f.tail u9 ((F.trans (Fr.bP hg (by omega))).grown) c;have HM:=aiL S oE (by omega) kX b hm ad 238 #[] #[aB (Z (Y w.heap.size 0 U)),aB (Z (Y (w.heap.size+1) 0 U)),aB (Z (Y (w.heap.size+2) 0 U))] (enters_of func238 (by kernel_rfl) rfl) (P f.tail) (aig S s hs hi g fs i eg T o P HN);have G:ah (ag.dT e s.data.toList b P ts=if d.length=b then .no 2 (bI e f) else(P f.tail).bind fun a r=>ag.dU e s.data.toList P (b - (d.length+1)) (d++[a]) r):=by
     show _=_;rw[j.eq];by_cases hf:d.length=b
     ·rw[if_pos hf,show b - d.length=0 by omega];unfold ag.dU;rw[if_pos hi]
     ·rw[if_neg hf,show b - d.length=(b - (d.length+1))+1 by omega]
      conv=>lhs;unfold ag.dU
      rw[if_pos hi]
    clear HN hi;go_wp2_with fail;refine HM.mono ?_;rintro x w3 ⟨z,⟨l,r,c,u,v3,rfl,V,K⟩|⟨c3,q3,c,rfl,r,v3,K⟩⟩
    ·by_cases hf:d.length=b
     ·rw[if_pos hf] at c;cases c
     ·rw[if_neg hf] at c;obtain⟨a2,r2,B,c⟩:=ag.aQ c;cases c;have nI:ah (Ur w w3 rb e bl R s b P (ag.dT e s.data.toList b P ts) (.func (.func g) fs i) u (d++[a2]) r v3):=by
       refine⟨V,K,F.trans (z.mono (by omega)),T.fr z (by omega) o,by have:=z.size;omega,by simp;omega,?_⟩;rw[G.out,if_neg hf,B,iG];rfl
      have eu:ah (lenOf u=d.length+1):=(by show _=_;rw[V.len];simp);clear z V K B;go_wp2;go_roundw;case rel=>exact⟨_,_,_,nI.out⟩
      case measure=>rw[eu.out];simp only[lenOf];omega
    ·have ez:=am ((F.trans (z.mono (by omega))).grown);refine⟨rfl,ez.out,.inr ⟨c3,q3,?_,rfl,_,_,K⟩⟩;rw[G.out];by_cases hf:d.length=b
     ·rw[if_pos hf] at c⊢;cases c;rfl
     ·rw[if_neg hf] at c⊢;cases B:P f.tail with
      | ok a2 r2=>rw[B] at c;cases c
      | no c2 q2=>rw[B] at c;cases c;rfl
 ·have e1:ag.dT e s.data.toList b P ts=.no cc q:=(by unfold ag.dT;rw[c];rfl);exact⟨rfl,cU (dN _ tw) t,.inr ⟨_,_,e1,rfl,_,_,y⟩⟩
theorem anI (h:Rd w rb e bl R ts v)(o s c:Bt)(hO:o.data.toList≠[])(hs:s.data.toList≠[])(hc:c.data.toList≠[])(a:Nat)(hm:a<=1000)(qk:0<a)(g:Nat)(fs K:Av)(eg:∀args w,(callFunc g args).run prog w=.ok (.enter g args) w)
 (P:List Tok->aA Tr) (hp:∀w' m L,w.grownBy w' (Z rb)->Rd w' rb e bl R m L->aC prog g (fs++K) w' (dS w' rb e bl R (P m) (VE w'.heap.size))):
 aC prog 207 #[aB (Z (Y rb 0 U)),H o,H s,H c,A I (a:Int),.func (.func g) fs K] w (dS w rb e bl R (ag.ei e o.data.toList s.data.toList c.data.toList a P ts) (fun w' l u=>∃B,w.heap.size<=B/\bO od w' B 48 7 u l)):=by
 have dz:=h.lt;have ad:=am h;have HP:=am hp;have Ci:ah (∀x y,ag.aR e o.data.toList ts=.ok x y->ag.ei e o.data.toList s.data.toList c.data.toList a P ts=(if aO c.data.toList y=ap then aA.ok [] y else ag.dT e s.data.toList a P y).bind fun l r2=>(ag.aR e c.data.toList r2).bind fun _ f=>.ok l f):=fun x y N=>(by show ag.ei _ _ _ _ _ _ _=_;unfold ag.ei;rw[N];rfl);have AR:ah (∀x y,ag.aR e o.data.toList ts=.no x y->ag.ei e o.data.toList s.data.toList c.data.toList a P ts=.no x y):=fun x y N=>(by show ag.ei _ _ _ _ _ _ _=_;unfold ag.ei;rw[N];rfl);clear h hp;go_enter func207,ntmps207;go_wp2_with fail;refine(iI o hO ad).mono ?_;rintro x w1 ⟨n,⟨a1,i,p,u1,v1,rfl,rfl,q⟩|⟨c1,q1,p,rfl,i,v1,q⟩⟩
 ·have j:=Ci.out _ _ p;have S:=am q;have fL:=am n;have bZ:=n.size;clear q n p;go_wp2_with fail;refine(ui c S).mono ?_;rintro x Q ⟨rfl,r⟩;have H2:=am (S.keeps r S.lt);have t:=am (mH fL r);have bA:=r.size;clear r;cases hi:aO c.data.toList i with
  | true=>
   rw[if_pos hi] at j;have rx:ah (∀z y,ag.aR e c.data.toList i=.ok z y->ag.ei e o.data.toList s.data.toList c.data.toList a P ts=.ok [] y):=fun z y J5=>(by rw[j];simp only[ag.aA.bind];rw[J5]);have HM:ah (ag.aR e c.data.toList i=.ok (nx i).2.1 i.tail):=(by show _=_;unfold ag.aR;rw[if_pos hi]);clear j hi;go_wp2_with fail;refine(iI c hc H2).mono ?_;rintro x w3 ⟨k,⟨a3,f,b,u3,T,rfl,rfl,d⟩|⟨c3,q3,b,rfl,f,T,d⟩⟩
   ·have AS:=rx.out _ _ b;have C:=am (cU t k);have V:=am d;have W:ah (ag.ei e o.data.toList s.data.toList c.data.toList a P ts=.ok [] f):=AS;clear k d b AS;go_wp2;go_ret;exact⟨C.out,.inl ⟨_,_,W.out,_,_,rfl,⟨w.heap.size,aD _,bO.nil _ _ _ _ _⟩,V.out⟩⟩
   ·rw[HM.out] at b;cases b
  | false=>
   rw[if_neg (by simp[hi])] at j;have HL:=ajp H2 s hs a hm qk g fs K eg P (fun w' m L hg hr=>HP.out w' m L (cU t hg) hr);have fM:=am j;clear j hi;go_wp2_with fail;refine HL.mono ?_;rintro x w3 ⟨k,⟨l,f,b,u3,T,rfl,X,d⟩|⟨c3,q3,b,rfl,f,T,d⟩⟩
   ·obtain⟨ao,cc,rfl⟩:=X.slice;have pX:=fM.out;rw[b] at pX;have zI:ah (ag.ei e o.data.toList s.data.toList c.data.toList a P ts=(ag.aR e c.data.toList f).bind fun _ E=>.ok l E):=pX;have wh:=am X;have V:=am d;have C:ah (w.grownBy w3 (Z rb)):=cU t k;clear pX X d k b HL;go_wp2_with fail;refine(iI c hc V).mono ?_;rintro x w4 ⟨dg,⟨a4,E,F,u4,v4,rfl,rfl,G⟩|⟨c4,q4,F,rfl,E,v4,G⟩⟩
    ·have W:ah (ag.ei e o.data.toList s.data.toList c.data.toList a P ts=.ok l E):=(by show _=_;rw[zI.out,F];rfl);have Mb:ah (bO _ _ _ _ _ _ _):=wh.grown oQ dg (by omega);have H4:ah (Rd _ _ _ _ _ _ _):=G;have lH:ah (w.grownBy w4 (Z rb)):=cU C dg;clear F dg G;go_wp2;go_ret;exact⟨lH.out,.inl ⟨_,_,W.out,_,_,rfl,⟨Q.heap.size+3,by omega,Mb.out⟩,H4.out⟩⟩
    ·refine⟨rfl,cU C dg,.inr ⟨c4,q4,?_,rfl,_,_,G⟩⟩;rw[zI.out,F];rfl
   ·refine⟨rfl,cU t k,.inr ⟨c3,q3,?_,rfl,_,_,d⟩⟩;rw[fM.out,b];rfl
 ·exact⟨rfl,n,.inr ⟨_,_,AR.out _ _ p,rfl,_,_,q⟩⟩
open ag (Tok Tr Po aA nx bI aO gg ba)
theorem mh (h:w.grownBy w1 (Z X))(a:Below w.heap.size w1 Q):w.grownBy Q (Z X):=
 ⟨a.os.trans h.os,a.tape.trans h.tape,a.output.trans h.output,fC h.size a.size,fun j b c=>(a.block j b).trans (h.block j b c)⟩
def zR {α:Type}(w:au)(tb e:Nat)(ts:List Tok)(v:aw)(bl al:Int)(res:aA α)(V:au->α->aw->Prop)(J:aw->Prop)(x:Ending)(w':au):Prop:=
 w.grownBy w' (Z tb)/\((∃a k p u,res=.ok a (ts.drop k)/\x=aE u/\V w' a u/\Tx w' tb e ts v k 0 p bl al)\/(∃c q u,res=.no c q/\x=aE u/\J u/\c≠0/\Tx w' tb e ts v ts.length c (q:Int) bl al))
def JL (u:aw):Prop:=∃(ao:Oa) (n c:Nat),u=O ao n c
def JE (u:aw):Prop:=∃(z0 z1 z2 z3:Int) (z4:Bt) (z5:Oa) (m5 d5:Nat) (z6:Oa) (m6 d6:Nat),u=.agg #[A I z0,A I z1,A I z2,A I z3,H z4,O z5 m5 d5,O z6 m6 d6]
def zO (tb e:Nat)(ts:List Tok)(v:aw)(bl al:Int)(E:List Tok->aA Tr):Prop:=∀(w:au) (k:Nat) (p:Int),Tx w tb e ts v k 0 p bl al->aC prog 105 #[aB (Z (Y tb 0 U))] w (zR w tb e ts v bl al (E (ts.drop k)) (VE w.heap.size) JE)
theorem Tx.past {d:Nat}{c0 f g h:Int}(a:Tx w X e ts v d c0 f g h)(i:w.grownBy w1 (Z X))(t1:Tx w1 X e ts v k c p bl al)(b:Below w.heap.size w1 Q):Tx Q X e ts v k c p bl al:=
 a.kept (mh i b) ((b.block X a.lt).trans t1.bE) t1.le t1.kO
theorem ji (h:Lex.dY (Lex.c0 s)=ak):ag.Fix s:=.inr h
theorem np (a:ag.Good ts)(b:ag.Fix s)(c:s≠[])(k:Nat):gg s (ts.drop k)=aO s (ts.drop k):=ag.Ew (a.dn (List.drop_suffix _ _)) b c
def Qk (w wr:au)(tb e:Nat)(ts:List Tok)(v:aw)(bl al:Int)(E:List Tok->aA Tr)(k:Nat)(lv:aw)(acc:List Tr)(kk:Nat)(pp:Int):Prop:=
 w.grownBy wr (Z tb)/\Tx wr tb e ts v kk 0 pp bl al/\bO od wr w.heap.size 48 7 lv acc/\ag.dT e [44] 4 E (ts.drop k)=ag.dU e [44] E (4 - acc.length) acc (ts.drop kk)
def Wj (w wr:au)(tb e:Nat)(ts:List Tok)(v:aw)(bl al:Int)(E:List Tok->aA Tr)(k:Nat)(c:Int)(q:Nat):Prop:=
 w.grownBy wr (Z tb)/\c≠0/\Tx wr tb e ts v ts.length c (q:Int) bl al/\ag.dT e [44] 4 E (ts.drop k)=.no c q
theorem Ir {m:aA Tr}{x:Ending}(h:zR w X e ts v bl al m (VE B) JE x w'):w.grownBy w' (Z X)/\∃(z0 z1 z2 d:Int) (f:Bt) (g:Oa) (i d5:Nat) (j:Oa) (l d6:Nat),x=aE (.agg #[A I z0,A I z1,A I z2,A I d,H f,O g i d5,O j l d6])/\((∃a k p,m=.ok a (ts.drop k)/\od w' (fun b=>B<=b) a [A I z0,A I z1,A I z2,A I d,H f,O g i d5,O j l d6]/\Tx w' X e ts v k 0 p bl al)\/(∃c q,m=.no c q/\c≠0/\Tx w' X e ts v ts.length c (q:Int) bl al)):=by
 obtain⟨u,⟨a,k,p,y,n,o,⟨z0,z1,z2,d,f,g,i,d5,j,l,d6,r,s⟩,t⟩|⟨c,q,y,n,o,⟨z0,z1,z2,d,f,g,i,d5,j,l,d6,r⟩,s,t⟩⟩:=h
 ·subst r;exact⟨u,_,_,_,_,_,_,_,_,_,_,_,o,.inl ⟨a,k,p,n,s,t⟩⟩
 ·subst r;exact⟨u,_,_,_,_,_,_,_,_,_,_,_,o,.inr ⟨c,q,n,s,t⟩⟩
theorem Tx.next (h:Tx w X e ts v k c p bl al)(d:k<ts.length):w.grownBy (w.setCell (Y X 1 U) (A I ((k:Int)+1))) (Z X)/\Tx (w.setCell (Y X 1 U) (A I ((k:Int)+1))) X e ts v (k+1) c p bl al:=by
 have b:(k:Int)+1=((k+1:Nat):Int):=(by omega);rw[b];have a:w.grownBy (w.setCell (Y X 1 U) (A I ((k+1:Nat):Int))) (Z X):=eR (jh _ _) rfl _;exact⟨a,h.kept a (Cz (k':=k+1) h.bE) (by omega) h.kO⟩
theorem J2 (a:s≠[])(h:aO s (ts.drop k)=ap):k<ts.length:=by
 apply Classical.byContradiction;intro b;rw[List.drop_of_length_le (by omega)] at h;simp[aO,nx] at h;exact a h
theorem Nu {a:Type}{P:List Tok->aA a}{acc:List a}(h:aO s ts=ak):ag.dU e s P m acc ts=.ok acc ts:=by
 cases m<;>simp[ag.dU,h]
theorem Nt {a:Type}{P:List Tok->aA a}{acc:List a}(h:aO s ts=ap):ag.dU e s P 0 acc ts=.no 2 (bI e ts):=by simp[ag.dU,h]
theorem Ns {b:Type}{P:List Tok->aA b}{acc:List b}(h:aO s (ts.drop k)=ap):ag.dU e s P (m+1) acc (ts.drop k)=(P (ts.drop (k+1))).bind fun a r=>ag.dU e s P m (acc++[a]) r:=by
 simp[ag.dU,h]
theorem Bb {b:Bool}(h:aO s (ts.drop k)=b):ag.aR e s (ts.drop k)=if b=ap then .ok (nx (ts.drop k)).2.1 (ts.drop (k+1)) else .no 1 (bI e (ts.drop k)):=by
 unfold ag.aR;rw[h,drop_tail]
theorem acm {m:List Tok->aA Tr}(gM:ag.Good ts)(hE:zO X e ts v bl al m)(h:Tx w X e ts v k 0 p bl al):
 aC prog 106 #[aB (Z (Y X 0 U))] w (zR w X e ts v bl al (ag.ei e [40] [44] [41] 4 m (ts.drop k)) (fun w' l u=>bO od w' w.heap.size 48 7 u l) JL):=by
 have hn:=G5 [40] h;have ad:ah (Tx w X e ts v k 0 p bl al):=h;have HE:ah (zO X e ts v bl al m):=hE;have dK:ah (ag.Good ts):=gM;have Fl:=h.lt;rw[np gM (ji (by decide)) (by decide)] at hn;have HI:ah (∀b,aO [40] (ts.drop k)=b->ag.ei e [40] [44] [41] 4 m (ts.drop k)=if b=ap then((if aO [41] (ts.drop (k+1))=ap then aA.ok [] (ts.drop (k+1)) else ag.dT e [44] 4 m (ts.drop (k+1))).bind fun l K=>(ag.aR e [41] K).bind fun _ L=>.ok l L) else .no 1 (bI e (ts.drop k))):=by
  show ∀b,_;intro b hb;unfold ag.ei ag.aR;rw[hb];cases b
  ·rfl
  ·simp only[if_true,drop_tail];rfl
 obtain⟨r,hr⟩:∃r,aO [40] (ts.drop k)=r:=⟨_,rfl⟩;obtain⟨ae,hR⟩:∃ae,ae=ag.ei e [40] [44] [41] 4 m (ts.drop k):=⟨_,rfl⟩;have HR:=hR.trans (HI.out r hr);have HR:ah (ae=_):=HR;rw[<-hR];rw[hr] at hn;clear h hE gM hr hR;go_enter func106,ntmps106;go_wp2_with fail;refine hn.mono ?_;rintro x w1 ⟨rfl,o⟩;have fL:ah (w.grownBy w1 (Z X)):=o.1;cases r with
 | false=>
  have H1:ah (Tx w1 X e ts v ts.length 1 (bI e (ts.drop k):Int) bl al):=o.2.2 rfl;have j:=vl [41] H1;rw[zZ] at j;clear o hn;go_wp2_with fail;refine j.mono ?_;rintro x Q ⟨rfl,E⟩;have F:ah (Tx Q X e ts v ts.length 1 (bI e (ts.drop k):Int) bl al):=E.2.2;obtain⟨q0,q1,q2,q3,q4,q5,q6⟩:=F.cells;have aK:=F.lt;have dX:ah (w.grownBy Q (Z X)):=fL.trans E.1;clear E j;go_wp2;go_ret;exact⟨dX.out,.inr ⟨1,_,_,HR.out,rfl,⟨_,_,_,rfl⟩,by decide,F.out⟩⟩
 | true=>
  have H1:ah (Tx w1 X e ts v (k+1) 0 p bl al):=(o.2.1 rfl).2;have j:=vl [41] H1;rw[np dK.out (ji (by decide)) (by decide)] at j;obtain⟨K,fi⟩:∃K,aO [41] (ts.drop (k+1))=K:=⟨_,rfl⟩;have eF:ah (aO [41] (ts.drop (k+1))=K):=fi;rw[fi] at j;clear o hn fi;go_wp2_with fail;refine j.mono ?_;rintro x Q ⟨rfl,E⟩;have dX:ah (w.grownBy Q (Z X)):=fL.trans E.1;cases K with
  | true=>
   have F:ah (Tx Q X e ts v (k+1+1) 0 p bl al):=E.2.2;clear E j;go_wp2;go_ret;refine⟨dX.out,.inl ⟨[],k+1+1,p,_,?_,rfl,bO.nil _ _ _ _ _,F.out⟩⟩;rw[HR.out];simp[aA.bind,ag.aR,eF.out]
  | false=>
   have F:ah (Tx Q X e ts v (k+1) 0 p bl al):=E.2.2;have IV:ah (ae=(ag.dT e [44] 4 m (ts.drop (k+1))).bind fun l K=>(ag.aR e [41] K).bind fun _ L=>.ok l L):=(by show _=_;rw[HR.out,eF.out];rfl);obtain⟨q0,q1,q2,q3,q4,q5,q6⟩:=F.cells;have aK:=F.lt;have hx:=HE.out Q (k+1) p F;clear E j;go_wp2_with fail;refine hx.mono ?_;intro x w3 Am;obtain⟨bY,z0,z1,z2,z3,z4,z5,m5,d5,z6,m6,d6,rfl,gH⟩:=Ir Am;have HS:ah ((∃d f t,1=d.length/\Qk w (w3.alloc (M #[A I z0,A I z1,A I z2,A I z3,H z4,O z5 m5 d5,O z6 m6 d6] 48)) X e ts v bl al m (k+1) (O (Z (Y w3.heap.size 0 U)) 1 1) d f t)\/(∃c q,Wj w (w3.alloc (M #[A I z0,A I z1,A I z2,A I z3,H z4,O z5 m5 d5,O z6 m6 d6] 48)) X e ts v bl al m (k+1) c q)):=by
    have iD:Bl w3 (w3.alloc (M #[A I z0,A I z1,A I z2,A I z3,H z4,O z5 m5 d5,O z6 m6 d6] 48)):=(aF _ _).alloc (aD _) _;have Ov:w.grownBy w3 (Z X):=dX.trans bY;have aI:=dX.size;have af:=Ov.size;have dg:=mh Ov (iD.mono af);rcases gH with⟨a,k2,p2,S,T,V⟩|⟨c,q,S,T,V⟩
    ·refine .inl ⟨[a],k2,p2,rfl,dg,V.later iD,?_,by unfold ag.dT;rw[S];rfl⟩;exact bO.one oQ (oQ.mono T fun b hb _=>by omega) af
    ·exact .inr ⟨c,q,dg,T,V.later iD,by unfold ag.dT;rw[S];rfl⟩
   clear Am bY gH hx q0 q1 q2 q3 q4 q5 q6 aK;go_wp2;go_loopw [3] (fun lv wr=>∃N n P,lv=O N n P/\1<=n/\n<=4/\ah ((∃d f t,n=d.length/\Qk w wr X e ts v bl al m (k+1) lv d f t)\/(∃c q,Wj w wr X e ts v bl al m (k+1) c q))) (fun lv _=>4 - lenOf lv);case atStart=>exact⟨_,_,_,rfl,aD _,by omega,HS.out⟩
   case round=>
    clear HS;obtain⟨N,n,P,rfl,jE,oR,HD⟩:=hrel;rcases HD.out with⟨d,f,t,hn,vD⟩|⟨c,q,iS⟩
    ·clear HD;subst hn;have W:ah (Qk w wr X e ts v bl al m (k+1) (O N d.length P) d f t):=vD;have j:=rC [44] vD.2.1;rw[np dK.out (ji (by decide)) (by decide)] at j;obtain⟨L,eL⟩:∃L,aO [44] (ts.drop f)=L:=⟨_,rfl⟩;have ni:ah (aO [44] (ts.drop f)=L):=eL;rw[eL] at j;clear vD eL;go_wp2_with fail;refine j.mono ?_;rintro x G ⟨rfl,R⟩;have C:ah (Tx G X e ts v f 0 t bl al):=W.2.1.later R;have gQ:ah (w.grownBy G (Z X)):=mh W.1 (R.mono W.1.size);have ai:ah (bO od G w.heap.size 48 7 (O N d.length P) d):=W.2.2.1.below oQ R;clear R j;cases L with
     | false=>
      have o:=G5 [41] C;rw[np dK.out (ji (by decide)) (by decide)] at o;obtain⟨r4,gA⟩:∃r4,aO [41] (ts.drop f)=r4:=⟨_,rfl⟩;have U3:ah (aO [41] (ts.drop f)=r4):=gA;rw[gA] at o;clear gA;go_wp2_with fail;refine o.mono ?_;rintro x s ⟨rfl,oo⟩;have PQ:ah (NdP G X e ts v f 0 t bl al r4 s):=oo;clear oo o;go_wp2;go_ret;have y:=W.2.2.2;rw[Nu ni.out] at y;have z:=IV.out;rw[y] at z;simp only[aA.bind] at z;rw[Bb U3.out] at z;obtain⟨ao,iq,dI⟩:=PQ.out;have ru:w.grownBy s (Z X):=gQ.trans ao;cases r4 with
      | true=>
       refine⟨ru,.inl ⟨d,f+1,t,_,z,rfl,ai.grown oQ ao ad.lt,(iq rfl).2⟩⟩
      | false=>
       refine⟨ru,.inr ⟨1,_,_,z,rfl,⟨_,_,_,rfl⟩,by decide,?_⟩⟩;exact dI rfl
     | true=>
      have AP:ah (f<ts.length):=J2 (by decide) ni;by_cases hf:d.length=4
      ·have eG:=wT 2 C;have HF:ah (d.length=4):=hf;have hd:decide ((4:Int)<=(d.length:Int))=ap:=(by simp;omega);clear hf;go_wp2_with fail;refine eG.mono ?_;rintro x s ⟨rfl,sQ⟩;have ax:ah (Dx G X e ts v f 0 t bl al 2 s):=sQ;clear sQ eG;go_wp2;go_ret;have y:=W.2.2.2;rw[HF.out,Nt ni.out] at y;have z:=IV.out;rw[y] at z;obtain⟨h8,h9⟩:=ax.out;rw[if_pos rfl,if_pos rfl] at h9;exact⟨gQ.trans h8,.inr ⟨2,_,_,z,rfl,⟨_,_,_,rfl⟩,by decide,h9⟩⟩
      ·have hd:decide ((4:Int)<=(d.length:Int))=ak:=(by simp;omega);have HF:ah (d.length<4):=(by show _<_;omega);obtain⟨q0,q1,_⟩:=C.cells;have z1:=C.free 1;have aK:=C.lt;have mU:f<=100000:=fC C.le C.jZ;obtain⟨ou,h6⟩:=C.next AP;have ru:ah (w.grownBy (G.setCell (Y X 1 U) (A I ((f:Int)+1))) (Z X)):=gQ.trans ou;have Vi:ah (bO od (G.setCell (Y X 1 U) (A I ((f:Int)+1))) w.heap.size 48 7 (O N d.length P) d):=ai.grown oQ ou ad.lt;have hx:=HE.out _ _ _ h6;clear hf ou h6;go_wp2_with fail;obtain⟨s,sQ⟩:∃s,s=G.setCell (Y X 1 U) (A I ((f:Int)+1)):=⟨_,rfl⟩;rw[<-sQ] at ru Vi hx⊢;clear sQ q0 q1 z1 aK;refine hx.mono ?_;intro x B ar;obtain⟨gG,y0,y1,y2,y3,y4,y5,n5,f5,y6,n6,f6,rfl,gH⟩:=Ir ar;have ww:ah (w.grownBy B (Z X)):=ru.trans gG;have ay:ah ((∃a k p,m (ts.drop (f+1))=.ok a (ts.drop k)/\od B (fun b=>s.heap.size<=b) a [A I y0,A I y1,A I y2,A I y3,H y4,O y5 n5 f5,O y6 n6 f6]/\Tx B X e ts v k 0 p bl al)\/(∃c q,m (ts.drop (f+1))=.no c q/\c≠0/\Tx B X e ts v ts.length c (q:Int) bl al)):=gH;obtain⟨aJ,o1,o2,o3⟩:=Vi.ex;obtain⟨im,p1,p2,p3⟩:=(Vi.grown oQ gG ad.lt).ex;have HP:ah (B.ownsRow w.heap.size 48 7 (O N d.length P) d.length im.flatten):=p1;have L9:ah (im.length=d.length):=p2;have F9:ah (∀i (h:i<d.length) (h':i<im.length),od B (SB w.heap.size (O N d.length P)) d[i] im[i]):=p3;have R5:s.heap.size<=B.heap.size:=gG.size;have aG:w.heap.size<=s.heap.size:=ru.size;have HL:ah (∀k,(Value.slice N d.length P).ownBlock=Z k->w.heap.size<=k/\k<s.heap.size):=o1.lt;obtain⟨i0,gT,cL,bZ,bA⟩:=info_parts Tryz.J4;clear hx ar gG gH o1 o2 o3 p1 p2 p3
       go_wp2_with (at_builtin;refine wpList_append_own_at _ rfl _ _ 46 rfl w.heap.size 48 i0 (.agg #[A I 0,A I 0,A I 0,A I 0,H ⟨#[]⟩,O U 0 0,O U 0 0]) 7 96 underlying46 gT cL bZ bA rfl (by decide) _ _ _ rfl (World.ownsRow.alloc HP.out _) (Y B.heap.size 0 U) 1 1 [A I y0,A I y1,A I y2,A I y3,H y4,O y5 n5 f5,O y6 n6 f6] rfl rfl ?c1 ?c2 ?c3 ?c4 ?c5 ?_);case c1=>exact JH _ _
       case c2=>intro u hu;simp only[List.mem_cons,List.not_mem_nil,or_false] at hu;rcases hu with rfl | rfl | rfl | rfl | rfl | rfl | rfl<;>rfl
       case c3=>unfold maxLen;omega
       case c4=>omega
       case c5=>simp;omega
       ·intro u' w8 li jf _ nW;have gv:Bl B (B.alloc (M #[A I y0,A I y1,A I y2,A I y3,H y4,O y5 n5 f5,O y6 n6 f6] 48)):=(aF _ _).alloc (aD _) _;have xY:=(gv.mono (by omega)).grown jf (by have:=gv.size;omega) (fun k hk=>(HL.out k hk).1);obtain⟨rh,c8,Hk⟩:∃rh c8,u'=O rh (d.length+1) c8:=by
         rcases li.2 with⟨hv,h0⟩|⟨g,aH,aM,rfl,_⟩
         ·exact⟨U,0,by rw[hv,h0]⟩
         ·exact⟨_,aH,rfl⟩
        subst Hk;have oa:ah ((∃av f t,d.length+1=av.length/\Qk w w8 X e ts v bl al m (k+1) (O rh (d.length+1) c8) av f t)\/(∃c q,Wj w w8 X e ts v bl al m (k+1) c q)):=by
         have uy:=mh ww xY;have y:=W.2.2.2;rw[show 4 - d.length=(4 - (d.length+1))+1 by have:=HF.out;omega,Ns ni.out] at y;rcases ay.out with⟨a,k2,p2,S,T,V⟩|⟨c,q,S,T,V⟩
         ·rw[S] at y;refine .inl ⟨d++[a],k2,p2,by simp,uy,ad.past ww V xY,?_,by rw[y,iG];rfl⟩;refine bO.add oQ (w:=s) (w1:=B.alloc (M #[A I y0,A I y1,A I y2,A I y3,H y4,O y5 n5 f5,O y6 n6 f6] 48)) (css:=im) ?_ L9 (fun i hi cY=>oQ.keeps (F9.out i hi cY) (aP.bm gv)) (oQ.keeps T (aP.bm gv)) aG li jf (by simpa using nW);exact fun k hk=>(HL.out k hk).2
         ·rw[S] at y;exact .inr ⟨c,q,uy,T,ad.past ww V xY,y⟩
        have jO:=HF.out;clear li jf nW gv xY;go_wp2;refine⟨⟨rh,d.length+1,c8,rfl,by omega,by omega,oa.out⟩,?_⟩;simp only[lenOf];omega
    ·have HN:=am iS;have j:=rC [44] iS.2.2.1;rw[zZ] at j;clear iS HD;go_wp2_with fail;refine j.mono ?_;rintro x G ⟨rfl,R⟩;have C:=am (HN.2.2.1.later R);have gQ:=am (mh HN.1 (R.mono HN.1.size));have o:=G5 [41] C;rw[zZ] at o;clear R j;go_wp2_with fail;refine o.mono ?_;rintro x s ⟨rfl,oo⟩;have PQ:=am oo;clear oo o;go_wp2;go_ret;have z:=IV.out;rw[HN.2.2.2] at z;have h9:=PQ.2.2 rfl;rw[if_neg HN.2.1,if_neg HN.2.1] at h9;exact⟨gQ.trans PQ.1,.inr ⟨c,q,_,z,rfl,⟨_,_,_,rfl⟩,HN.2.1,h9⟩⟩
theorem iU {b c d:Type}(x:aA b)(f:b->List Tok->aA c)(g:c->List Tok->aA d):(x.bind f).bind g=x.bind fun a r=>(f a r).bind g:=by
 cases x<;>rfl
def St {α:Type}(w:au)(tb e:Nat)(ts:List Tok)(v:aw)(bl al:Int)(res:aA α)(K:List Tok->aA α)(k:Nat)(c p:Int):Prop:=
 Tx w tb e ts v k c p bl al/\((c=0/\res=K (ts.drop k))\/(c≠0/\k=ts.length/\∃q:Nat,p=(q:Int)/\res=.no c q))
theorem St.later {a:Type}{b:aA a}{K:List Tok->aA a}(h:St w X e ts v bl al b K k c p)(d:Bl w w'):St w' X e ts v bl al b K k c p:=⟨h.1.later d,h.2⟩
def AB {α:Type}(w:au)(tb e:Nat)(ts:List Tok)(v:aw)(bl al:Int)(res:aA α)(K:List Tok->aA α)(w':au):Prop:=
 w.grownBy w' (Z tb)/\∃k c p,St w' tb e ts v bl al res K k c p
theorem oK {f:Type}{g:aA f}{K:List Tok->aA f}(i:ag.Good ts)(j:ag.Fix s)(l:s≠[])(h:St w X e ts v bl al g (fun r=>(ag.aR e s r).bind fun _ o=>K o) k c p):
 aC prog 52 #[aB (Z (Y X 0 U)),H (ba s)] w fun x w'=>x=aE (.tuple #[])/\AB w X e ts v bl al g K w':=by
 have hn:=G5 s h.1;rw[np i j l] at hn;refine hn.mono ?_;rintro x w' ⟨rfl,t,u,m⟩;refine⟨rfl,t,?_⟩;rcases h.2 with⟨rfl,a⟩|⟨d,rfl,q,rfl,a⟩
 ·simp only at a;cases b:aO s (ts.drop k) with
  | true=>
   rw[Bb b] at a;exact⟨_,_,_,(u b).2,.inl ⟨rfl,a⟩⟩
  | false=>
   rw[Bb b] at a;exact⟨_,_,_,m b,.inr ⟨by decide,rfl,_,rfl,a⟩⟩
 ·have b:aO s (ts.drop ts.length)=ak:=(by rw[<-np i j l];exact zZ _ _);have n:=m b;rw[if_neg d,if_neg d] at n;exact⟨_,_,_,n,.inr ⟨d,rfl,q,rfl,a⟩⟩
def qx (ts:List Tok):Prop:=∀t∈ts,(ba t.2.2).size<=maxLen
theorem qx.nx (h:qx ts)(k:Nat):(ba (nx (ts.drop k)).2.2).size<=maxLen:=by
 by_cases a:k<ts.length
 ·rw[G4 a];exact h _ (List.getElem_mem a)
 ·rw[A9 (by omega)];exact Nat.zero_le _
theorem qT {g:Type}{i:aA g}{K:Bt->List Tok->aA g}(l:qx ts)(h:St w X e ts v bl al i (fun r=>(ag.bR e r).bind K) k c p):
 aC prog 51 #[aB (Z (Y X 0 U))] w fun x w'=>∃o:Bt,x=aE (H o)/\o.size<=maxLen/\AB w X e ts v bl al i (K o) w':=by
 have hn:=aiv h.1;refine hn.mono ?_;rintro x w' ⟨rfl,m,n,j⟩;refine⟨_,rfl,?_,m,?_⟩
 ·split
  ·exact l.nx k
  ·exact Nat.zero_le _
 ·rcases h.2 with⟨rfl,a⟩|⟨f,rfl,q,rfl,a⟩
  ·simp only at a;by_cases b:(nx (ts.drop k)).1=1
   ·have d:ag.bR e (ts.drop k)=.ok (ba (nx (ts.drop k)).2.2) (ts.drop (k+1)):=(by unfold ag.bR;rw[if_pos b,drop_tail]);rw[d] at a;rw[if_pos b];exact⟨_,_,_,(n b).2,.inl ⟨rfl,a⟩⟩
   ·have d:ag.bR e (ts.drop k)=.no 1 (bI e (ts.drop k)):=(by unfold ag.bR;rw[if_neg b]);rw[d] at a;exact⟨_,_,_,j b,.inr ⟨by decide,rfl,_,rfl,a⟩⟩
  ·have b:¬(nx (ts.drop ts.length)).1=1:=(by rw[A9 (aD _)];decide);have d:=j b;rw[if_neg f,if_neg f] at d;exact⟨_,_,_,d,.inr ⟨f,rfl,q,rfl,a⟩⟩
theorem Tryz.Zm:(prog.info? 119).map (fun i=>(i.zero,i.size,i.bytes))=Z (Z (.agg #[H ⟨#[]⟩,O U 0 0]),2,40):=by kernel_rfl
def VP (B:Nat)(w':au)(a:Po)(u:aw):Prop:=∃(z0:Bt) (z1:Oa) (m1 d1:Nat),u=.agg #[H z0,O z1 m1 d1]/\pk w' (fun b=>B<=b) a [H z0,O z1 m1 d1]
theorem Yg (w:au)(e:TypeId):∀j u,([G,F]:Lv)[j]? =Z u->(w.alloc (M #[G,F] e)).cell? (((Y w.heap.size 0 U):Addr).add j)=Z u:=by
 intro j u a;have b:(w.alloc (M #[G,F] e)).cell? (Y w.heap.size j U)=(#[G,F]:Av)[j]? :=World.cell?_alloc_at _ _ _ _ (by simp);have c:((Y w.heap.size 0 U):Addr).add j=(Y w.heap.size j U):=(by simp[Addr.add];intro h;exact h.symm);rw[c,b];simpa using a
theorem aiD (h:Rd w rb e bl R ts v){css:List (Lv)}(u:w.ownsRow B 119 2 lv n css.flatten)(S:rb<B)(z:B<=w.heap.size)(d:Nat)(hm:d<=1000)(nX:n<=d)
 (g:Nat) (fs C:Av) (eg:∀args w,(callFunc g args).run prog w=.ok (.enter g args) w) (i:aA Po) (E:aC prog g (fs++C) w (dS w rb e bl R i (VP w.heap.size))):
 aC prog 205 #[aB (Z (Y rb 0 U)),lv,A I (d:Int),.func (.func g) fs C] w (se pk w rb e bl R B 119 2 d n css lv ts i):=by
 obtain⟨y,c,rfl⟩:=nt u;have T:ah (Rd w rb e bl R ts v):=h;have V:ah (w.ownsRow B 119 2 (O y n c) n css.flatten):=u;have W:ah (B<=w.heap.size):=z;clear h u z;by_cases hf:n=d
 ·have X:((n:Int)==(d:Int))=ap:=(by simp[hf]);have j:ah (n=d):=hf;clear hf E;go_enter func205,ntmps205;go_wp2_with fail;refine(tJ _ T).mono ?_;rintro x Q ⟨rfl,bS⟩;subst bS;exact⟨rfl,.inl ⟨j.out,rfl,rfl⟩⟩
 ·have X:((n:Int)==(d:Int))=ak:=(by simp;omega);have j:ah (n≠d):=hf;obtain⟨i0,gT,cL,bZ,bA⟩:=info_parts Tryz.Zm;have jO:n<1000:=(by omega);clear hf;go_enter func205,ntmps205;go_wp2_with fail;refine E.mono ?_;rintro x w1 ⟨f,⟨a,r,k,ad,l,rfl,⟨m,o,p,d1,rfl,hx⟩,s⟩|⟨cc,q,k,rfl,r,l,s⟩⟩
  ·have HG:ah (w.grownBy w1 (Z rb)):=f;have sk:ah (i=.ok a r):=k;have F:ah (Rd w1 rb e bl R r l):=s;have G:ah (pk w1 (fun b=>w.heap.size<=b) a [H m,O o p d1]):=hx;have HP:ah (w1.ownsRow B 119 2 (O y n c) n css.flatten):=vx V f S;have xr:w.heap.size<=w1.heap.size:=f.size;clear f s hx k;go_wp2_with (at_builtin;refine wpList_append_own_at _ rfl _ _ 44 rfl B 119 i0 (.agg #[H ⟨#[]⟩,O U 0 0]) 2 40 underlying44 gT cL bZ bA rfl (by decide) _ _ _ rfl (World.ownsRow.alloc HP.out _) (Y w1.heap.size 0 U) 1 1 [H m,O o p d1] rfl rfl ?c1 ?c2 ?c3 ?c4 ?c5 ?_);case c1=>exact Yg _ _
   case c2=>exact qU.one G
   case c3=>unfold maxLen;omega
   case c4=>omega
   case c5=>have:=W.out;simp;omega
   ·intro K Q L N _ P;have t:Bl w1 (w1.alloc (M #[H m,O o p d1] 119)):=(aF _ _).alloc (aD _) _;have HN:ah (se pk w rb e bl R B 119 2 d n css (O y n c) ts i (aE K) Q):=.inr ⟨j.out,.inr ⟨a,r,K,l,[H m,O o p d1],_,sk.out,rfl,HG.trans (dN _ t),qU.keeps G (aP.bm t),N,L,by simpa using P,F.keeps t F.lt⟩⟩;clear L N P t;go_wp2;go_ret;exact HN.out
  ·exact⟨rfl,.inr ⟨j.out,.inl ⟨cc,q,k,rfl,f,r,l,s⟩⟩⟩
theorem aiJ (h:Rd w rb e bl R ts v){acc:List Po}(k:bO pk w B 119 2 lv acc)(f:rb<B)(i:B<=w.heap.size)(b:Nat)(hm:b<=1000)(m:acc.length<=b)
 (g:Nat) (fs c:Av) (n:∀args w,(callFunc g args).run prog w=.ok (.enter g args) w) (d:aA Po) (o:aC prog g (fs++c) w (dS w rb e bl R d (VP w.heap.size))):
 aC prog 205 #[aB (Z (Y rb 0 U)),lv,A I (b:Int),.func (.func g) fs c] w (DB B w rb e bl R (if acc.length=b then .no 2 (bI e ts) else d.bind fun a r=>.ok (acc++[a]) r) (fun w' l u=>bO pk w' B 119 2 u l)):=by
 obtain⟨t,j,p,q⟩:=k.ex;exact(aiD h j f i b hm m g fs c n d o).mono fun x w' s=>JJ qU h f i j p q s
structure DW (w:au)(bx rb:Nat)(s:Bt)(f:aw):Prop where
 b0:w.heap[bx]? =Z (M #[aB (Z (Y rb 0 U))] 39)
 b1:w.heap[bx+1]? =Z (M #[H s] 9)
 b2:w.heap[bx+2]? =Z (M #[f] 165)
theorem DW.fr {s:Bt}(h:DW w N rb s f)(k:Fr B rb w w')(a:N+2<B)(b:rb<N):DW w' N rb s f:=
 ⟨(k.block _ (by omega) (by omega)).trans h.b0,(k.block _ (by omega) (by omega)).trans h.b1,(k.block _ (by omega) (by omega)).trans h.b2⟩
theorem DW.cells {s:Bt}(h:DW w N rb s f):w.cell? (Y N 0 U)=Z (aB (Z (Y rb 0 U)))/\w.cell? (Y (N+1) 0 U)=Z (H s)/\w.cell? (Y (N+2) 0 U)=Z f:=by
 have:=h.b0;have:=h.b1;have:=h.b2;refine⟨?_,?_,?_⟩<;>simp[aN, *]
theorem apx {e:TypeId}(h:w.heap[b]? =Z (M #[G,F] e)):(w.cell? (Y b 0 U)=Z G/\w.cell? (Y b 1 U)=Z F)/\w.frozen? (Y b 0 U)=ak/\w.frozen? (Y b 1 U)=ak:=by
 refine⟨⟨?_,?_⟩,?_,?_⟩<;>simp[aN,World.frozen?,h]
theorem akv:w.grownBy (((w).setCell (Y n 0 U) y0).setCell (Y n 1 U) y1) (Z n):=by
 refine eR ?_ rfl _;refine eR ?_ rfl _;exact jh _ _
theorem aie (h:Rd w rb e bl R ts v)(s:Bt)(hs:s.data.toList≠[])(K:aO s.data.toList ts=ap)(g:Nat)(fs L:Av)(eg:∀args w,(callFunc g args).run prog w=.ok (.enter g args) w)(d:DW w N rb s (.func (.func g) fs L))(S:rb<N)
 (P:List Tok->aA Po) (T:∀w' j,w.grownBy w' (Z rb)->Rd w' rb e bl R ts.tail j->aC prog g (fs++L) w' (dS w' rb e bl R (P ts.tail) (VP w'.heap.size))):
 aC prog 206 #[aB (Z (Y N 0 U)),aB (Z (Y (N+1) 0 U)),aB (Z (Y (N+2) 0 U))] w (dS w rb e bl R (P ts.tail) (VP w.heap.size)):=by
 obtain⟨w0,l⟩:=nm (w.alloc (M #[H ⟨#[]⟩,O U 0 0] 119));have lP:=J d.b2;have y:=eS l;have fE:=uJ l;have bU:=aa l;have V:=d.fr (Fr.bm y) lP S;have k0:=V.cells;have j0:=d.cells.1;have j1:=d.cells.2.1;have W:ah (ag.aR e s.data.toList ts=.ok (nx ts).2.1 ts.tail):=(by show _=_;unfold ag.aR;rw[if_pos K]);have ad:=am (h.keeps y h.lt);have dz:=h.lt;have YT:N<w.heap.size:=(by omega);have YS:N+1<w.heap.size:=(by omega);clear h d K;go_enter func206,ntmps206;go_wp2_with fail;rw[<-l];refine(iI s hs ad).mono ?_;rintro x w1 ⟨m,⟨a,r,c,ae,j,rfl,rfl,z⟩|⟨cc,q,c,rfl,r,j,z⟩⟩
 ·rw[W.out] at c;cases c;have B:=Fr.bP m (aD _);have X:=V.fr B (by omega) S;have m2:=X.cells.2.2;have C:=cU (dN _ y) m;have HP:=T w1 j C z;have gC:=am ((B.block _ (by omega) (by omega)).trans bU);have HG:=am C;have bZ:=m.size;clear m B X C z k0 j0 j1 T;go_wp2_with fail;refine HP.mono ?_;rintro x Q ⟨n,⟨a,r,c,ae,v2,rfl,⟨o,p,t,d1,rfl,hx⟩,i⟩|⟨cc,q,c,rfl,r,v2,i⟩⟩
  ·have E:=(n.block _ (by omega) (by simp;omega)).trans gC;have iq:=J E;obtain⟨⟨q0,q1⟩,p0,p1⟩:=apx E;have dX:=am (cU HG n);have eF:ah (P ts.tail=.ok a r):=c;have H2:=am i;have HX:=am hx;obtain⟨u,F⟩:=nm (((Q).setCell (Y w.heap.size 0 U) (H o)).setCell (Y w.heap.size 1 U) (O p t d1));have f:Q.grownBy u (Z w.heap.size):=(by rw[F];exact akv);have HV:ah (pk u (fun b=>w.heap.size<=b) a [H o,O p t d1]):=qU.mono (qU.keeps hx (aP.bP f fun b d=>by simp;omega)) fun b d _=>(by omega);have G:Below w.heap.size Q u:=⟨f.os,f.tape,f.output,f.size,fun k hk=>f.block k (by omega) (by simp;omega)⟩;have Cf:ah (w.grownBy u (Z rb)):=((Fr.bP dX (aD _)).trans (Fr.bm G)).grown;have jA:ah (Rd _ _ _ _ _ _ _):=i.keeps G (by omega);have tX:=am F;clear n c i hx E HP f G F;go_wp2;refine bodyPost_ret (v:=.agg #[H o,O p t d1]) (by simp[results,results206,go_sem,q0,q1]) rfl ?_;rw[<-tX.out];exact⟨Cf.out,.inl ⟨_,_,eF.out,_,_,rfl,⟨o,p,t,d1,rfl,HV.out⟩,jA.out⟩⟩
  ·exact⟨rfl,cU HG n,.inr ⟨_,_,c,rfl,_,_,i⟩⟩
 ·rw[W.out] at c;cases c
structure Up (w wr:au)(rb e:Nat)(bl pr:Int)(s:Bt)(most:Nat)(P:List Tok->aA Po)(all:aA (List Po))(f lv:aw)(acc:List Po)(ts:List Tok)(v:aw):Prop where
 own:bO pk wr (w.heap.size+3) 119 2 lv acc
 rd:Rd wr rb e bl pr ts v
 fr:Fr w.heap.size rb w wr
 box:DW wr w.heap.size rb s f
 kO:w.heap.size+3<=wr.heap.size
 len:acc.length<=most
 eq:all=ag.dU e s.data.toList P (most - acc.length) acc ts
theorem aji (h:Rd w rb e bl R ts v)(s:Bt)(hs:s.data.toList≠[])(b:Nat)(hm:b<=1000)(qk:0<b)(g:Nat)(fs i:Av)(eg:∀args w,(callFunc g args).run prog w=.ok (.enter g args) w)
 (P:List Tok->aA Po) (L:∀w' f C,w.grownBy w' (Z rb)->Rd w' rb e bl R f C->aC prog g (fs++i) w' (dS w' rb e bl R (P f) (VP w'.heap.size))):
 aC prog 176 #[aB (Z (Y rb 0 U)),H s,A I (b:Int),.func (.func g) fs i] w (dS w rb e bl R (ag.dT e s.data.toList b P ts) (fun w' l u=>bO pk w' (w.heap.size+3) 119 2 u l)):=by
 have lO:∀(W:Fn) (first X:Av) (w:au),(Instr.makeFunc W first X).run prog w=.ok (.func W first X) w:=fun _ _ _ _=>rfl;have o:=h.lt;obtain⟨N,p⟩:=nm (((w.alloc (M #[aB (Z (Y rb 0 U))] 39)).alloc (M #[H s] 9)).alloc (M #[.func (.func g) fs i] 165));have E:Bl w N:=(by rw[p];exact(((aF _ _).alloc (aD _) _).alloc (by simp) _).alloc (by simp;omega) _);have fE:=Pp p;have bG:DW N w.heap.size rb s (.func (.func g) fs i):=(by rw[p];exact⟨cR (cR (cu _ _ _ rfl)),cR (cu _ _ _ (by simp)),cu _ _ _ (by simp)⟩);have kj:=am bG;have tw:=am E;have oD:=L N ts v (dN _ E) (h.keeps E h.lt);have HP:=am L;clear h L bG E;go_enter func176,ntmps176;go_wp2_with fail;rw[<-p];refine oD.mono ?_;rintro x w1 ⟨t,⟨a,r,c,u,v1,rfl,⟨z0,z1,m1,d1,rfl,hx⟩,y⟩|⟨cc,q,c,rfl,r,v1,y⟩⟩
 ·have AK:ah (ag.dT e s.data.toList b P ts=ag.dU e s.data.toList P (b - 1) [a] r):=(by show _=_;unfold ag.dT;rw[c];rfl);have HS:ah (Up w (w1.alloc (M #[H z0,O z1 m1 d1] 119)) rb e bl R s b P (ag.dT e s.data.toList b P ts) (.func (.func g) fs i) (O (Z (Y w1.heap.size 0 U)) 1 1) [a] r v1):=(by have hz:=t.size;refine⟨bO.one qU (by rw[fE] at hx;exact hx) (by omega),y.keeps ((aF _ _).alloc (aD _) _) y.lt,(Fr.bm tw).trans ((Fr.bP t (by omega)).trans (Fr.bm ((aF _ _).alloc (by omega) _))),?_,by simp;omega,qk,AK.out⟩;exact(kj.fr (Fr.bP t (aD _)) (by omega) o).fr (Fr.bm ((aF _ _).alloc (aD _) _)) (by omega) o);clear t hx y oD c p;go_wp2;go_loopw [9] (fun lv wr=>∃d f C,Up w wr rb e bl R s b P (ag.dT e s.data.toList b P ts) (.func (.func g) fs i) lv d f C) (fun lv _=>b - lenOf lv);case atStart=>exact⟨_,_,_,HS.out⟩
  case round=>
   obtain⟨d,f,C,k⟩:=hrel;obtain⟨ao,cc,rfl⟩:=k.own.slice;have j:=am k;have k0:=k.box.cells;have Ar:=k.kO;have ad:=k.len;clear k HS;go_wp2_with fail;refine(ui s j.rd).mono ?_;rintro x Q ⟨rfl,n⟩;have S:=am (j.rd.keeps n j.rd.lt);have oE:=am (j.own.below qU n);have T:=am (j.box.fr (Fr.bm n) (by omega) o);have F:=am (j.fr.trans (Fr.bm (n.mono (by omega))));have bA:=n.size;have i0:=T.cells;clear n k0;cases hi:aO s.data.toList f with
   | false=>
    have G:ah (ag.dT e s.data.toList b P ts=.ok d f):=by
     show _=_;rw[j.eq];cases b - d.length with
     | zero=>unfold ag.dU;rw[if_neg (by simp[hi])]
     | succ m=>unfold ag.dU;rw[if_neg (by simp[hi])]
    clear hi;go_wp2;go_ret;exact⟨F.grown,.inl ⟨_,_,G.out,_,_,rfl,oE.out,S.out⟩⟩
   | true=>
    have kX:w.heap.size+3<=Q.heap.size:=(by omega);have HN:=fun(w':au) (u9:aw) (hg:Q.grownBy w' (Z rb)) (c:Rd w' rb e bl R f.tail u9)=>HP.out w' f.tail u9 ((F.trans (Fr.bP hg (by omega))).grown) c;have HM:=aiJ S oE (by omega) kX b hm ad 206 #[] #[aB (Z (Y w.heap.size 0 U)),aB (Z (Y (w.heap.size+1) 0 U)),aB (Z (Y (w.heap.size+2) 0 U))] (enters_of func206 (by kernel_rfl) rfl) (P f.tail) (aie S s hs hi g fs i eg T o P HN);have G:ah (ag.dT e s.data.toList b P ts=if d.length=b then .no 2 (bI e f) else(P f.tail).bind fun a r=>ag.dU e s.data.toList P (b - (d.length+1)) (d++[a]) r):=by
     show _=_;rw[j.eq];by_cases hf:d.length=b
     ·rw[if_pos hf,show b - d.length=0 by omega];unfold ag.dU;rw[if_pos hi]
     ·rw[if_neg hf,show b - d.length=(b - (d.length+1))+1 by omega]
      conv=>lhs;unfold ag.dU
      rw[if_pos hi]
    clear HN hi;go_wp2_with fail;refine HM.mono ?_;rintro x w3 ⟨z,⟨l,r,c,u,v3,rfl,V,K⟩|⟨c3,q3,c,rfl,r,v3,K⟩⟩
    ·by_cases hf:d.length=b
     ·rw[if_pos hf] at c;cases c
     ·rw[if_neg hf] at c;obtain⟨a2,r2,B,c⟩:=ag.aQ c;cases c;have nI:ah (Up w w3 rb e bl R s b P (ag.dT e s.data.toList b P ts) (.func (.func g) fs i) u (d++[a2]) r v3):=by
       refine⟨V,K,F.trans (z.mono (by omega)),T.fr z (by omega) o,by have:=z.size;omega,by simp;omega,?_⟩;rw[G.out,if_neg hf,B,iG];rfl
      have eu:ah (lenOf u=d.length+1):=(by show _=_;rw[V.len];simp);clear z V K B;go_wp2;go_roundw;case rel=>exact⟨_,_,_,nI.out⟩
      case measure=>rw[eu.out];simp only[lenOf];omega
    ·have ez:=am ((F.trans (z.mono (by omega))).grown);refine⟨rfl,ez.out,.inr ⟨c3,q3,?_,rfl,_,_,K⟩⟩;rw[G.out];by_cases hf:d.length=b
     ·rw[if_pos hf] at c⊢;cases c;rfl
     ·rw[if_neg hf] at c⊢;cases B:P f.tail with
      | ok a2 r2=>rw[B] at c;cases c
      | no c2 q2=>rw[B] at c;cases c;rfl
 ·have e1:ag.dT e s.data.toList b P ts=.no cc q:=(by unfold ag.dT;rw[c];rfl);exact⟨rfl,cU (dN _ tw) t,.inr ⟨_,_,e1,rfl,_,_,y⟩⟩
theorem anG (h:Rd w rb e bl R ts v)(o s c:Bt)(hO:o.data.toList≠[])(hs:s.data.toList≠[])(hc:c.data.toList≠[])(a:Nat)(hm:a<=1000)(qk:0<a)(g:Nat)(fs K:Av)(eg:∀args w,(callFunc g args).run prog w=.ok (.enter g args) w)
 (P:List Tok->aA Po) (hp:∀w' m L,w.grownBy w' (Z rb)->Rd w' rb e bl R m L->aC prog g (fs++K) w' (dS w' rb e bl R (P m) (VP w'.heap.size))):
 aC prog 125 #[aB (Z (Y rb 0 U)),H o,H s,H c,A I (a:Int),.func (.func g) fs K] w (dS w rb e bl R (ag.ei e o.data.toList s.data.toList c.data.toList a P ts) (fun w' l u=>∃B,w.heap.size<=B/\bO pk w' B 119 2 u l)):=by
 have dz:=h.lt;have ad:=am h;have HP:=am hp;have Ci:ah (∀x y,ag.aR e o.data.toList ts=.ok x y->ag.ei e o.data.toList s.data.toList c.data.toList a P ts=(if aO c.data.toList y=ap then aA.ok [] y else ag.dT e s.data.toList a P y).bind fun l r2=>(ag.aR e c.data.toList r2).bind fun _ f=>.ok l f):=fun x y N=>(by show ag.ei _ _ _ _ _ _ _=_;unfold ag.ei;rw[N];rfl);have AR:ah (∀x y,ag.aR e o.data.toList ts=.no x y->ag.ei e o.data.toList s.data.toList c.data.toList a P ts=.no x y):=fun x y N=>(by show ag.ei _ _ _ _ _ _ _=_;unfold ag.ei;rw[N];rfl);clear h hp;go_enter func125,ntmps125;go_wp2_with fail;refine(iI o hO ad).mono ?_;rintro x w1 ⟨n,⟨a1,i,p,u1,v1,rfl,rfl,q⟩|⟨c1,q1,p,rfl,i,v1,q⟩⟩
 ·have j:=Ci.out _ _ p;have S:=am q;have fL:=am n;have bZ:=n.size;clear q n p;go_wp2_with fail;refine(ui c S).mono ?_;rintro x Q ⟨rfl,r⟩;have H2:=am (S.keeps r S.lt);have t:=am (mH fL r);have bA:=r.size;clear r;cases hi:aO c.data.toList i with
  | true=>
   rw[if_pos hi] at j;have rx:ah (∀z y,ag.aR e c.data.toList i=.ok z y->ag.ei e o.data.toList s.data.toList c.data.toList a P ts=.ok [] y):=fun z y J5=>(by rw[j];simp only[ag.aA.bind];rw[J5]);have HM:ah (ag.aR e c.data.toList i=.ok (nx i).2.1 i.tail):=(by show _=_;unfold ag.aR;rw[if_pos hi]);clear j hi;go_wp2_with fail;refine(iI c hc H2).mono ?_;rintro x w3 ⟨k,⟨a3,f,b,u3,T,rfl,rfl,d⟩|⟨c3,q3,b,rfl,f,T,d⟩⟩
   ·have AS:=rx.out _ _ b;have C:=am (cU t k);have V:=am d;have W:ah (ag.ei e o.data.toList s.data.toList c.data.toList a P ts=.ok [] f):=AS;clear k d b AS;go_wp2;go_ret;exact⟨C.out,.inl ⟨_,_,W.out,_,_,rfl,⟨w.heap.size,aD _,bO.nil _ _ _ _ _⟩,V.out⟩⟩
   ·rw[HM.out] at b;cases b
  | false=>
   rw[if_neg (by simp[hi])] at j;have HL:=aji H2 s hs a hm qk g fs K eg P (fun w' m L hg hr=>HP.out w' m L (cU t hg) hr);have fM:=am j;clear j hi;go_wp2_with fail;refine HL.mono ?_;rintro x w3 ⟨k,⟨l,f,b,u3,T,rfl,X,d⟩|⟨c3,q3,b,rfl,f,T,d⟩⟩
   ·obtain⟨ao,cc,rfl⟩:=X.slice;have pX:=fM.out;rw[b] at pX;have zI:ah (ag.ei e o.data.toList s.data.toList c.data.toList a P ts=(ag.aR e c.data.toList f).bind fun _ E=>.ok l E):=pX;have wh:=am X;have V:=am d;have C:ah (w.grownBy w3 (Z rb)):=cU t k;clear pX X d k b HL;go_wp2_with fail;refine(iI c hc V).mono ?_;rintro x w4 ⟨dg,⟨a4,E,F,u4,v4,rfl,rfl,G⟩|⟨c4,q4,F,rfl,E,v4,G⟩⟩
    ·have W:ah (ag.ei e o.data.toList s.data.toList c.data.toList a P ts=.ok l E):=(by show _=_;rw[zI.out,F];rfl);have Mb:ah (bO _ _ _ _ _ _ _):=wh.grown qU dg (by omega);have H4:ah (Rd _ _ _ _ _ _ _):=G;have lH:ah (w.grownBy w4 (Z rb)):=cU C dg;clear F dg G;go_wp2;go_ret;exact⟨lH.out,.inl ⟨_,_,W.out,_,_,rfl,⟨Q.heap.size+3,by omega,Mb.out⟩,H4.out⟩⟩
    ·refine⟨rfl,cU C dg,.inr ⟨c4,q4,?_,rfl,_,_,G⟩⟩;rw[zI.out,F];rfl
   ·refine⟨rfl,cU t k,.inr ⟨c3,q3,?_,rfl,_,_,d⟩⟩;rw[fM.out,b];rfl
 ·exact⟨rfl,n,.inr ⟨_,_,AR.out _ _ p,rfl,_,_,q⟩⟩
theorem Tryz.Hh:(prog.info? 9).map (fun i=>(i.zero,i.size,i.bytes))=Z (Z (H ⟨#[]⟩),1,16):=by kernel_rfl
def VS (B:Nat)(w':au)(a:Bt)(u:aw):Prop:=∃(z0:Bt),u=H z0/\jm w' (fun b=>B<=b) a [H z0]
theorem JG (w:au)(e:TypeId):∀j u,([G]:Lv)[j]? =Z u->(w.alloc (M #[G] e)).cell? (((Y w.heap.size 0 U):Addr).add j)=Z u:=by
 intro j u a;have b:(w.alloc (M #[G] e)).cell? (Y w.heap.size j U)=(#[G]:Av)[j]? :=World.cell?_alloc_at _ _ _ _ (by simp);have c:((Y w.heap.size 0 U):Addr).add j=(Y w.heap.size j U):=(by simp[Addr.add];intro h;exact h.symm);rw[c,b];simpa using a
theorem Yq (h:Rd w rb e bl R ts v){css:List (Lv)}(s:w.ownsRow B 9 1 lv n css.flatten)(N:rb<B)(u:B<=w.heap.size)(d:Nat)(hm:d<=1000)(nX:n<=d)
 (g:Nat) (fs y:Av) (eg:∀args w,(callFunc g args).run prog w=.ok (.enter g args) w) (i:aA Bt) (z:aC prog g (fs++y) w (dS w rb e bl R i (VS w.heap.size))):
 aC prog 32 #[aB (Z (Y rb 0 U)),lv,A I (d:Int),.func (.func g) fs y] w (se jm w rb e bl R B 9 1 d n css lv ts i):=by
 obtain⟨t,c,rfl⟩:=nt s;have P:ah (Rd w rb e bl R ts v):=h;have S:ah (w.ownsRow B 9 1 (O t n c) n css.flatten):=s;have T:ah (B<=w.heap.size):=u;clear h s u;by_cases hf:n=d
 ·have V:((n:Int)==(d:Int))=ap:=(by simp[hf]);have j:ah (n=d):=hf;clear hf z;go_enter func32,ntmps32;go_wp2_with fail;refine(tJ _ P).mono ?_;rintro x Q ⟨rfl,W⟩;subst W;exact⟨rfl,.inl ⟨j.out,rfl,rfl⟩⟩
 ·have V:((n:Int)==(d:Int))=ak:=(by simp;omega);have j:ah (n≠d):=hf;obtain⟨X,gT,cL,bZ,bA⟩:=info_parts Tryz.Hh;have jO:n<1000:=(by omega);clear hf;go_enter func32,ntmps32;go_wp2_with fail;refine z.mono ?_;rintro x w1 ⟨f,⟨a,r,k,ad,l,rfl,⟨m,rfl,hx⟩,o⟩|⟨cc,q,k,rfl,r,l,o⟩⟩
  ·have HG:ah (w.grownBy w1 (Z rb)):=f;have sk:ah (i=.ok a r):=k;have C:ah (Rd w1 rb e bl R r l):=o;have E:ah (jm w1 (fun b=>w.heap.size<=b) a [H m]):=hx;have HP:ah (w1.ownsRow B 9 1 (O t n c) n css.flatten):=vx S f N;have xr:w.heap.size<=w1.heap.size:=f.size;clear f o hx k;go_wp2_with (at_builtin;refine wpList_append_own_at _ rfl _ _ 22 rfl B 9 X (H ⟨#[]⟩) 1 16 underlying22 gT cL bZ bA rfl (by decide) _ _ _ rfl (World.ownsRow.alloc HP.out _) (Y w1.heap.size 0 U) 1 1 [H m] rfl rfl ?c1 ?c2 ?c3 ?c4 ?c5 ?_);case c1=>exact JG _ _
   case c2=>exact fe.one E
   case c3=>unfold maxLen;omega
   case c4=>omega
   case c5=>have:=T.out;simp;omega
   ·intro F Q G K _ L;have p:Bl w1 (w1.alloc (M #[H m] 9)):=(aF _ _).alloc (aD _) _;have HN:ah (se jm w rb e bl R B 9 1 d n css (O t n c) ts i (aE F) Q):=.inr ⟨j.out,.inr ⟨a,r,F,l,[H m],_,sk.out,rfl,HG.trans (dN _ p),fe.keeps E (aP.bm p),K,G,by simpa using L,C.keeps p C.lt⟩⟩;clear G K L p;go_wp2;go_ret;exact HN.out
  ·exact⟨rfl,.inr ⟨j.out,.inl ⟨cc,q,k,rfl,f,r,l,o⟩⟩⟩
theorem aiI (h:Rd w rb e bl R ts v){acc:List Bt}(k:bO jm w B 9 1 lv acc)(f:rb<B)(i:B<=w.heap.size)(b:Nat)(hm:b<=1000)(m:acc.length<=b)
 (g:Nat) (fs c:Av) (n:∀args w,(callFunc g args).run prog w=.ok (.enter g args) w) (d:aA Bt) (o:aC prog g (fs++c) w (dS w rb e bl R d (VS w.heap.size))):
 aC prog 32 #[aB (Z (Y rb 0 U)),lv,A I (b:Int),.func (.func g) fs c] w (DB B w rb e bl R (if acc.length=b then .no 2 (bI e ts) else d.bind fun a r=>.ok (acc++[a]) r) (fun w' l u=>bO jm w' B 9 1 u l)):=by
 obtain⟨t,j,p,q⟩:=k.ex;exact(Yq h j f i b hm m g fs c n d o).mono fun x w' s=>JJ fe h f i j p q s
structure DV (w:au)(bx rb:Nat)(s:Bt)(f:aw):Prop where
 b0:w.heap[bx]? =Z (M #[aB (Z (Y rb 0 U))] 39)
 b1:w.heap[bx+1]? =Z (M #[H s] 9)
 b2:w.heap[bx+2]? =Z (M #[f] 84)
theorem DV.fr {s:Bt}(h:DV w N rb s f)(k:Fr B rb w w')(a:N+2<B)(b:rb<N):DV w' N rb s f:=
 ⟨(k.block _ (by omega) (by omega)).trans h.b0,(k.block _ (by omega) (by omega)).trans h.b1,(k.block _ (by omega) (by omega)).trans h.b2⟩
theorem DV.cells {s:Bt}(h:DV w N rb s f):w.cell? (Y N 0 U)=Z (aB (Z (Y rb 0 U)))/\w.cell? (Y (N+1) 0 U)=Z (H s)/\w.cell? (Y (N+2) 0 U)=Z f:=by
 have:=h.b0;have:=h.b1;have:=h.b2;refine⟨?_,?_,?_⟩<;>simp[aN, *]
theorem aid (h:Rd w rb e bl R ts v)(s:Bt)(y:s.data.toList≠[])(m:aO s.data.toList ts=ap)(g:Nat)(fs n:Av)(eg:∀args w,(callFunc g args).run prog w=.ok (.enter g args) w)(d:DV w N rb s (.func (.func g) fs n))(z:rb<N)
 (P:List Tok->aA Bt) (o:∀w' i,w.grownBy w' (Z rb)->Rd w' rb e bl R ts.tail i->aC prog g (fs++n) w' (dS w' rb e bl R (P ts.tail) (VS w'.heap.size))):
 aC prog 127 #[aB (Z (Y N 0 U)),aB (Z (Y (N+1) 0 U)),aB (Z (Y (N+2) 0 U))] w (dS w rb e bl R (P ts.tail) (VS w.heap.size)):=by
 have B:=J d.b2;have C:=d.cells;have E:=am d;have p:ah (ag.aR e s.data.toList ts=.ok (nx ts).2.1 ts.tail):=(by show _=_;unfold ag.aR;rw[if_pos m]);have F:=am h;clear h d m;go_enter func127,ntmps127;go_wp2_with fail;refine(iI s y F).mono ?_;rintro x w1 ⟨f,⟨a,r,c,G,i,rfl,rfl,k⟩|⟨K,q,c,rfl,r,i,k⟩⟩
 ·rw[p.out] at c;cases c;have m2:=(E.fr (Fr.bP f (aD _)) B z).cells.2.2;have t:=o w1 i f k;have u:=am f;have bZ:=f.size;clear f k C o;go_wp2_with fail;refine t.mono ?_;rintro x Q ⟨l,⟨a,r,c,G,L,rfl,⟨S,rfl,hx⟩,j⟩|⟨K,q,c,rfl,r,L,j⟩⟩
  ·have T:=am (cU u l);have V:=am c;have W:=am j;have X:=am (fe.mono hx fun b d _=>by omega);clear l c j hx t;go_wp2;go_ret;exact⟨T.out,.inl ⟨_,_,V.out,_,_,rfl,⟨S,rfl,X.out⟩,W.out⟩⟩
  ·exact⟨rfl,cU u l,.inr ⟨_,_,c,rfl,_,_,j⟩⟩
 ·rw[p.out] at c;cases c
structure Uo (w wr:au)(rb e:Nat)(bl pr:Int)(s:Bt)(most:Nat)(P:List Tok->aA Bt)(all:aA (List Bt))(f lv:aw)(acc:List Bt)(ts:List Tok)(v:aw):Prop where
 own:bO jm wr (w.heap.size+3) 9 1 lv acc
 rd:Rd wr rb e bl pr ts v
 fr:Fr w.heap.size rb w wr
 box:DV wr w.heap.size rb s f
 kO:w.heap.size+3<=wr.heap.size
 len:acc.length<=most
 eq:all=ag.dU e s.data.toList P (most - acc.length) acc ts
theorem YB (h:Rd w rb e bl R ts v)(s:Bt)(hs:s.data.toList≠[])(b:Nat)(hm:b<=1000)(qk:0<b)(g:Nat)(fs i:Av)(eg:∀args w,(callFunc g args).run prog w=.ok (.enter g args) w)
 (P:List Tok->aA Bt) (L:∀w' f C,w.grownBy w' (Z rb)->Rd w' rb e bl R f C->aC prog g (fs++i) w' (dS w' rb e bl R (P f) (VS w'.heap.size))):
 aC prog 81 #[aB (Z (Y rb 0 U)),H s,A I (b:Int),.func (.func g) fs i] w (dS w rb e bl R (ag.dT e s.data.toList b P ts) (fun w' l u=>bO jm w' (w.heap.size+3) 9 1 u l)):=by
 have lO:∀(W:Fn) (first X:Av) (w:au),(Instr.makeFunc W first X).run prog w=.ok (.func W first X) w:=fun _ _ _ _=>rfl;have o:=h.lt;obtain⟨N,p⟩:=nm (((w.alloc (M #[aB (Z (Y rb 0 U))] 39)).alloc (M #[H s] 9)).alloc (M #[.func (.func g) fs i] 84));have E:Bl w N:=(by rw[p];exact(((aF _ _).alloc (aD _) _).alloc (by simp) _).alloc (by simp;omega) _);have fE:=Pp p;have bG:DV N w.heap.size rb s (.func (.func g) fs i):=(by rw[p];exact⟨cR (cR (cu _ _ _ rfl)),cR (cu _ _ _ (by simp)),cu _ _ _ (by simp)⟩);have kj:=am bG;have tw:=am E;have oD:=L N ts v (dN _ E) (h.keeps E h.lt);have HP:=am L;clear h L bG E;go_enter func81,ntmps81;go_wp2_with fail;rw[<-p];refine oD.mono ?_;rintro x w1 ⟨t,⟨a,r,c,u,v1,rfl,⟨z0,rfl,hx⟩,y⟩|⟨cc,q,c,rfl,r,v1,y⟩⟩
 ·have AK:ah (ag.dT e s.data.toList b P ts=ag.dU e s.data.toList P (b - 1) [a] r):=(by show _=_;unfold ag.dT;rw[c];rfl);have HS:ah (Uo w (w1.alloc (M #[H z0] 9)) rb e bl R s b P (ag.dT e s.data.toList b P ts) (.func (.func g) fs i) (O (Z (Y w1.heap.size 0 U)) 1 1) [a] r v1):=(by have hz:=t.size;refine⟨bO.one fe (by rw[fE] at hx;exact hx) (by omega),y.keeps ((aF _ _).alloc (aD _) _) y.lt,(Fr.bm tw).trans ((Fr.bP t (by omega)).trans (Fr.bm ((aF _ _).alloc (by omega) _))),?_,by simp;omega,qk,AK.out⟩;exact(kj.fr (Fr.bP t (aD _)) (by omega) o).fr (Fr.bm ((aF _ _).alloc (aD _) _)) (by omega) o);clear t hx y oD c p;go_wp2;go_loopw [9] (fun lv wr=>∃d f C,Uo w wr rb e bl R s b P (ag.dT e s.data.toList b P ts) (.func (.func g) fs i) lv d f C) (fun lv _=>b - lenOf lv);case atStart=>exact⟨_,_,_,HS.out⟩
  case round=>
   obtain⟨d,f,C,k⟩:=hrel;obtain⟨ao,cc,rfl⟩:=k.own.slice;have j:=am k;have k0:=k.box.cells;have Ar:=k.kO;have ad:=k.len;clear k HS;go_wp2_with fail;refine(ui s j.rd).mono ?_;rintro x Q ⟨rfl,n⟩;have S:=am (j.rd.keeps n j.rd.lt);have oE:=am (j.own.below fe n);have T:=am (j.box.fr (Fr.bm n) (by omega) o);have F:=am (j.fr.trans (Fr.bm (n.mono (by omega))));have bA:=n.size;have i0:=T.cells;clear n k0;cases hi:aO s.data.toList f with
   | false=>
    have G:ah (ag.dT e s.data.toList b P ts=.ok d f):=by
     show _=_;rw[j.eq];cases b - d.length with
     | zero=>unfold ag.dU;rw[if_neg (by simp[hi])]
     | succ m=>unfold ag.dU;rw[if_neg (by simp[hi])]
    clear hi;go_wp2;go_ret;exact⟨F.grown,.inl ⟨_,_,G.out,_,_,rfl,oE.out,S.out⟩⟩
   | true=>
    have kX:w.heap.size+3<=Q.heap.size:=(by omega);have HN:=fun(w':au) (u9:aw) (hg:Q.grownBy w' (Z rb)) (c:Rd w' rb e bl R f.tail u9)=>HP.out w' f.tail u9 ((F.trans (Fr.bP hg (by omega))).grown) c;have HM:=aiI S oE (by omega) kX b hm ad 127 #[] #[aB (Z (Y w.heap.size 0 U)),aB (Z (Y (w.heap.size+1) 0 U)),aB (Z (Y (w.heap.size+2) 0 U))] (enters_of func127 (by kernel_rfl) rfl) (P f.tail) (aid S s hs hi g fs i eg T o P HN);have G:ah (ag.dT e s.data.toList b P ts=if d.length=b then .no 2 (bI e f) else(P f.tail).bind fun a r=>ag.dU e s.data.toList P (b - (d.length+1)) (d++[a]) r):=by
     show _=_;rw[j.eq];by_cases hf:d.length=b
     ·rw[if_pos hf,show b - d.length=0 by omega];unfold ag.dU;rw[if_pos hi]
     ·rw[if_neg hf,show b - d.length=(b - (d.length+1))+1 by omega]
      conv=>lhs;unfold ag.dU
      rw[if_pos hi]
    clear HN hi;go_wp2_with fail;refine HM.mono ?_;rintro x w3 ⟨z,⟨l,r,c,u,v3,rfl,V,K⟩|⟨c3,q3,c,rfl,r,v3,K⟩⟩
    ·by_cases hf:d.length=b
     ·rw[if_pos hf] at c;cases c
     ·rw[if_neg hf] at c;obtain⟨a2,r2,B,c⟩:=ag.aQ c;cases c;have nI:ah (Uo w w3 rb e bl R s b P (ag.dT e s.data.toList b P ts) (.func (.func g) fs i) u (d++[a2]) r v3):=by
       refine⟨V,K,F.trans (z.mono (by omega)),T.fr z (by omega) o,by have:=z.size;omega,by simp;omega,?_⟩;rw[G.out,if_neg hf,B,iG];rfl
      have eu:ah (lenOf u=d.length+1):=(by show _=_;rw[V.len];simp);clear z V K B;go_wp2;go_roundw;case rel=>exact⟨_,_,_,nI.out⟩
      case measure=>rw[eu.out];simp only[lenOf];omega
    ·have ez:=am ((F.trans (z.mono (by omega))).grown);refine⟨rfl,ez.out,.inr ⟨c3,q3,?_,rfl,_,_,K⟩⟩;rw[G.out];by_cases hf:d.length=b
     ·rw[if_pos hf] at c⊢;cases c;rfl
     ·rw[if_neg hf] at c⊢;cases B:P f.tail with
      | ok a2 r2=>rw[B] at c;cases c
      | no c2 q2=>rw[B] at c;cases c;rfl
 ·have e1:ag.dT e s.data.toList b P ts=.no cc q:=(by unfold ag.dT;rw[c];rfl);exact⟨rfl,cU (dN _ tw) t,.inr ⟨_,_,e1,rfl,_,_,y⟩⟩
end Go.Proofs.YtoiiahpdbcokaaaGreatDoor
