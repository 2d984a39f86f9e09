/- parse.more, parse.list, parse.enclosed at cloister/api.Stmt. And more of the same. -/
import Derived.Test.YtoiiahpdbcokaaaGreatDoorZC
namespace Go.Proofs.YtoiiahpdbcokaaaGreatDoor
open Go.Value renaming int -> A, slice -> O, string -> H, pointer -> aB, bool -> az
open Go.IntKind renaming i64 -> I
open _root_.Option renaming none -> U, some -> Z
open Go.Addr renaming mk -> Y
open Go.Obj renaming cells -> M, cells -> eV
open Go renaming lt_of_block -> J, World -> au, Value -> aw, Calls -> aC
open _root_.Nat renaming le_refl -> aD
open Go.Ending renaming returned -> aE
open Go.RowKit.Below renaming refl -> aF, heap_setCell -> dL
open _root_.Array renaming getElem?_modify -> dM
open Go.World renaming cell? -> aN, setCell -> bw
open _root_.Bool renaming false -> ak, true -> ap
open Go.RowKit renaming Below -> aq, Hid -> ah
open _root_.Go.Proofs.Tryz
set_option maxRecDepth 100000
set_option maxHeartbeats 8000000
open Go.RowKit
open ag (aV cV ii dV bL Tok Po Tr nx bI aO ba aA)
variable {f lv v x0 o fS fR fQ fP fO x2 x3 x4 x5 x6 x7 x8 x9:aw} {w w' z L wc Q wr:au} {B X b e k k' n rb W sz G ty:Nat} {al bl c c' p p' V:Int} {F ts:List Tok} {s:Bt} {x:Ending} {t:Tok} {E:List Tok->aA Tr} {S:Np} {l:List aV} {C:Av}
theorem Tryz.NH:(prog.info? 109).map (fun i=>(i.zero,i.size,i.bytes))=Z (Z (.agg #[A I 0,A I 0,H ⟨#[]⟩,H ⟨#[]⟩,az ak,O U 0 0,A I 0,A I 0,A I 0,A I 0,H ⟨#[]⟩,O U 0 0,O U 0 0,O U 0 0,O U 0 0]),15,224):=by kernel_rfl
def VT (B:Nat)(w':au)(a:aV)(u:aw):Prop:=∃(z0 z1:Int) (z2 z3:Bt) (z4:Bool) (z5:Oa) (m5 d5:Nat) (z6 z7 z8 z9:Int) (Ef:Bt) (Ee:Oa) (m11 d11:Nat) (z12:Oa) (m12 d12:Nat) (Ed:Oa) (m13 d13:Nat) (Ec:Oa) (m14 d14:Nat),u=.agg #[A I z0,A I z1,H z2,H z3,az z4,O z5 m5 d5,A I z6,A I z7,A I z8,A I z9,H Ef,O Ee m11 d11,O z12 m12 d12,O Ed m13 d13,O Ec m14 d14]/\bK w' (fun b=>B<=b) a [A I z0,A I z1,H z2,H z3,az z4,O z5 m5 d5,A I z6,A I z7,A I z8,A I z9,H Ef,O Ee m11 d11,O z12 m12 d12,O Ed m13 d13,O Ec m14 d14]
theorem Ye (w:au)(e:TypeId):∀j u,([x0,o,x2,x3,x4,x5,x6,x7,x8,x9,fS,fR,fQ,fP,fO]:Lv)[j]? =Z u->(w.alloc (M #[x0,o,x2,x3,x4,x5,x6,x7,x8,x9,fS,fR,fQ,fP,fO] e)).cell? (((Y w.heap.size 0 U):Addr).add j)=Z u:=by
 intro j u a;have b:(w.alloc (M #[x0,o,x2,x3,x4,x5,x6,x7,x8,x9,fS,fR,fQ,fP,fO] e)).cell? (Y w.heap.size j U)=(#[x0,o,x2,x3,x4,x5,x6,x7,x8,x9,fS,fR,fQ,fP,fO]:Av)[j]? :=World.cell?_alloc_at _ _ _ _ (by simp);have c:((Y w.heap.size 0 U):Addr).add j=(Y w.heap.size j U):=(by simp[Addr.add];intro h;exact h.symm);rw[c,b];simpa using a
theorem aiB (h:Rd w rb e bl V ts v){css:List (Lv)}(ho:w.ownsRow B 109 15 lv n css.flatten)(jw:rb<B)(hB:B<=w.heap.size)(a:Nat)(hm:a<=1000)(nX:n<=a)
 (g:Nat) (fs lb:Av) (eg:∀args w,(callFunc g args).run prog w=.ok (.enter g args) w) (i:aA aV) (hp:aC prog g (fs++lb) w (dS w rb e bl V i (VT w.heap.size))):
 aC prog 129 #[aB (Z (Y rb 0 U)),lv,A I (a:Int),.func (.func g) fs lb] w (se bK w rb e bl V B 109 15 a n css lv ts i):=by
 obtain⟨ao,c,rfl⟩:=nt ho;have ae:ah (Rd w rb e bl V ts v):=h;have HO:ah (w.ownsRow B 109 15 (O ao n c) n css.flatten):=ho;have HB:ah (B<=w.heap.size):=hB;clear h ho hB;by_cases hf:n=a
 ·have hi:((n:Int)==(a:Int))=ap:=(by simp[hf]);have j:ah (n=a):=hf;clear hf hp;go_enter func129,ntmps129;go_wp2_with fail;refine(tJ _ ae.out).mono ?_;rintro x L ⟨rfl,bS⟩;subst bS;exact⟨rfl,.inl ⟨j.out,rfl,rfl⟩⟩
 ·have hi:((n:Int)==(a:Int))=ak:=(by simp;omega);have j:ah (n≠a):=hf;obtain⟨i0,gT,cL,bZ,bA⟩:=info_parts Tryz.NH;have jO:n<1000:=(by omega);clear hf;go_enter func129,ntmps129;go_wp2_with fail;refine hp.mono ?_;rintro x d ⟨f,⟨ad,r,k,af,l,rfl,⟨m,o,p,s,t,u,y,d5,z,C,E,F,G,K,N,d11,P,Q,d12,R,S,d13,T,W,d14,rfl,hx⟩,X⟩|⟨cc,q,k,rfl,r,l,X⟩⟩
  ·have HG:ah (w.grownBy d (Z rb)):=f;have sk:ah (i=.ok ad r):=k;have H1:ah (Rd d rb e bl V r l):=X;have HX:ah (bK d (fun b=>w.heap.size<=b) ad [A I m,A I o,H p,H s,az t,O u y d5,A I z,A I C,A I E,A I F,H G,O K N d11,O P Q d12,O R S d13,O T W d14]):=hx;have HP:ah (d.ownsRow B 109 15 (O ao n c) n css.flatten):=vx HO.out f jw;have xr:w.heap.size<=d.heap.size:=f.size;clear f X hx k;go_wp2_with (at_builtin;refine wpList_append_own_at _ rfl _ _ 63 rfl B 109 i0 (.agg #[A I 0,A I 0,H ⟨#[]⟩,H ⟨#[]⟩,az ak,O U 0 0,A I 0,A I 0,A I 0,A I 0,H ⟨#[]⟩,O U 0 0,O U 0 0,O U 0 0,O U 0 0]) 15 224 underlying63 gT cL bZ bA rfl (by decide) _ _ _ rfl (World.ownsRow.alloc HP.out _) (Y d.heap.size 0 U) 1 1 [A I m,A I o,H p,H s,az t,O u y d5,A I z,A I C,A I E,A I F,H G,O K N d11,O P Q d12,O R S d13,O T W d14] rfl rfl ?c1 ?c2 ?c3 ?c4 ?c5 ?_);case c1=>exact Ye _ _
   case c2=>exact iA.one HX.out
   case c3=>unfold maxLen;omega
   case c4=>omega
   case c5=>have:=HB.out;simp;omega
   ·intro u' L gu fG _ gB;have bD:Bl d (d.alloc (M #[A I m,A I o,H p,H s,az t,O u y d5,A I z,A I C,A I E,A I F,H G,O K N d11,O P Q d12,O R S d13,O T W d14] 109)):=(aF _ _).alloc (aD _) _;have HN:ah (se bK w rb e bl V B 109 15 a n css (O ao n c) ts i (aE u') L):=.inr ⟨j.out,.inr ⟨ad,r,u',l,[A I m,A I o,H p,H s,az t,O u y d5,A I z,A I C,A I E,A I F,H G,O K N d11,O P Q d12,O R S d13,O T W d14],_,sk.out,rfl,HG.trans (dN _ bD),iA.keeps HX.out (aP.bm bD),fG,gu,by simpa using gB,H1.keeps bD H1.lt⟩⟩;clear gu fG gB bD;go_wp2;go_ret;exact HN.out
  ·exact⟨rfl,.inr ⟨j.out,.inl ⟨cc,q,k,rfl,f,r,l,X⟩⟩⟩
theorem aiH (h:Rd w rb e bl V ts v){acc:List aV}(k:bO bK w B 109 15 lv acc)(f:rb<B)(i:B<=w.heap.size)(b:Nat)(hm:b<=1000)(m:acc.length<=b)
 (g:Nat) (fs c:Av) (n:∀args w,(callFunc g args).run prog w=.ok (.enter g args) w) (d:aA aV) (o:aC prog g (fs++c) w (dS w rb e bl V d (VT w.heap.size))):
 aC prog 129 #[aB (Z (Y rb 0 U)),lv,A I (b:Int),.func (.func g) fs c] w (DB B w rb e bl V (if acc.length=b then .no 2 (bI e ts) else d.bind fun a r=>.ok (acc++[a]) r) (fun w' l u=>bO bK w' B 109 15 u l)):=by
 obtain⟨t,j,p,q⟩:=k.ex;exact(aiB h j f i b hm m g fs c n d o).mono fun x w' s=>JJ iA h f i j p q s
theorem Tryz.Zn:(prog.info? 60).map (fun i=>(i.zero,i.size,i.bytes))=Z (Z (.agg #[H ⟨#[]⟩,A I 0,O U 0 0]),3,48):=by kernel_rfl
def VM (B:Nat)(w':au)(a:cV)(u:aw):Prop:=∃(z0:Bt) (z1:Int) (z2:Oa) (m2 d2:Nat),u=.agg #[H z0,A I z1,O z2 m2 d2]/\fW w' (fun b=>B<=b) a [H z0,A I z1,O z2 m2 d2]
theorem Yh (w:au)(e:TypeId):∀j u,([x0,o,x2]:Lv)[j]? =Z u->(w.alloc (M #[x0,o,x2] e)).cell? (((Y w.heap.size 0 U):Addr).add j)=Z u:=by
 intro j u a;have b:(w.alloc (M #[x0,o,x2] e)).cell? (Y w.heap.size j U)=(#[x0,o,x2]:Av)[j]? :=World.cell?_alloc_at _ _ _ _ (by simp);have c:((Y w.heap.size 0 U):Addr).add j=(Y w.heap.size j U):=(by simp[Addr.add];intro h;exact h.symm);rw[c,b];simpa using a
theorem aiE (h:Rd w rb e bl V ts v){css:List (Lv)}(y:w.ownsRow B 60 3 lv n css.flatten)(T:rb<B)(E:B<=w.heap.size)(a:Nat)(hm:a<=1000)(nX:n<=a)
 (g:Nat) (fs F:Av) (eg:∀args w,(callFunc g args).run prog w=.ok (.enter g args) w) (i:aA cV) (G:aC prog g (fs++F) w (dS w rb e bl V i (VM w.heap.size))):
 aC prog 174 #[aB (Z (Y rb 0 U)),lv,A I (a:Int),.func (.func g) fs F] w (se fW w rb e bl V B 60 3 a n css lv ts i):=by
 obtain⟨z,c,rfl⟩:=nt y;have W:ah (Rd w rb e bl V ts v):=h;have X:ah (w.ownsRow B 60 3 (O z n c) n css.flatten):=y;have HB:ah (B<=w.heap.size):=E;clear h y E;by_cases hf:n=a
 ·have hi:((n:Int)==(a:Int))=ap:=(by simp[hf]);have j:ah (n=a):=hf;clear hf G;go_enter func174,ntmps174;go_wp2_with fail;refine(tJ _ W).mono ?_;rintro x L ⟨rfl,bS⟩;subst bS;exact⟨rfl,.inl ⟨j.out,rfl,rfl⟩⟩
 ·have hi:((n:Int)==(a:Int))=ak:=(by simp;omega);have j:ah (n≠a):=hf;obtain⟨i0,gT,cL,bZ,bA⟩:=info_parts Tryz.Zn;have jO:n<1000:=(by omega);clear hf;go_enter func174,ntmps174;go_wp2_with fail;refine G.mono ?_;rintro x d ⟨f,⟨C,r,k,ad,l,rfl,⟨m,o,p,s,d2,rfl,hx⟩,t⟩|⟨cc,q,k,rfl,r,l,t⟩⟩
  ·have HG:ah (w.grownBy d (Z rb)):=f;have sk:ah (i=.ok C r):=k;have K:ah (Rd d rb e bl V r l):=t;have N:ah (fW d (fun b=>w.heap.size<=b) C [H m,A I o,O p s d2]):=hx;have HP:ah (d.ownsRow B 60 3 (O z n c) n css.flatten):=vx X f T;have xr:w.heap.size<=d.heap.size:=f.size;clear f t hx k;go_wp2_with (at_builtin;refine wpList_append_own_at _ rfl _ _ 62 rfl B 60 i0 (.agg #[H ⟨#[]⟩,A I 0,O U 0 0]) 3 48 underlying62 gT cL bZ bA rfl (by decide) _ _ _ rfl (World.ownsRow.alloc HP.out _) (Y d.heap.size 0 U) 1 1 [H m,A I o,O p s d2] rfl rfl ?c1 ?c2 ?c3 ?c4 ?c5 ?_);case c1=>exact Yh _ _
   case c2=>exact ic.one N
   case c3=>unfold maxLen;omega
   case c4=>omega
   case c5=>have:=HB.out;simp;omega
   ·intro P L Q R _ S;have u:Bl d (d.alloc (M #[H m,A I o,O p s d2] 60)):=(aF _ _).alloc (aD _) _;have HN:ah (se fW w rb e bl V B 60 3 a n css (O z n c) ts i (aE P) L):=.inr ⟨j.out,.inr ⟨C,r,P,l,[H m,A I o,O p s d2],_,sk.out,rfl,HG.trans (dN _ u),ic.keeps N (aP.bm u),R,Q,by simpa using S,K.keeps u K.lt⟩⟩;clear Q R S u;go_wp2;go_ret;exact HN.out
  ·exact⟨rfl,.inr ⟨j.out,.inl ⟨cc,q,k,rfl,f,r,l,t⟩⟩⟩
theorem aiK (h:Rd w rb e bl V ts v){acc:List cV}(k:bO fW w B 60 3 lv acc)(f:rb<B)(i:B<=w.heap.size)(b:Nat)(hm:b<=1000)(m:acc.length<=b)
 (g:Nat) (fs c:Av) (n:∀args w,(callFunc g args).run prog w=.ok (.enter g args) w) (d:aA cV) (o:aC prog g (fs++c) w (dS w rb e bl V d (VM w.heap.size))):
 aC prog 174 #[aB (Z (Y rb 0 U)),lv,A I (b:Int),.func (.func g) fs c] w (DB B w rb e bl V (if acc.length=b then .no 2 (bI e ts) else d.bind fun a r=>.ok (acc++[a]) r) (fun w' l u=>bO fW w' B 60 3 u l)):=by
 obtain⟨t,j,p,q⟩:=k.ex;exact(aiE h j f i b hm m g fs c n d o).mono fun x w' s=>JJ ic h f i j p q s
structure BoxM (w:au)(bx rb:Nat)(s:Bt)(f:aw):Prop where
 b0:w.heap[bx]? =Z (M #[aB (Z (Y rb 0 U))] 39)
 b1:w.heap[bx+1]? =Z (M #[H s] 9)
 b2:w.heap[bx+2]? =Z (M #[f] 128)
theorem BoxM.fr {a:Nat}(h:BoxM w a rb s f)(k:Fr B rb w w')(b:a+2<B)(c:rb<a):BoxM w' a rb s f:=
 ⟨(k.block _ (by omega) (by omega)).trans h.b0,(k.block _ (by omega) (by omega)).trans h.b1,(k.block _ (by omega) (by omega)).trans h.b2⟩
theorem BoxM.cells {a:Nat}(h:BoxM w a rb s f):w.cell? (Y a 0 U)=Z (aB (Z (Y rb 0 U)))/\w.cell? (Y (a+1) 0 U)=Z (H s)/\w.cell? (Y (a+2) 0 U)=Z f:=by
 have:=h.b0;have:=h.b1;have:=h.b2;refine⟨?_,?_,?_⟩<;>simp[aN, *]
theorem apz {e:TypeId}(h:w.heap[b]? =Z (M #[x0,o,x2] e)):(w.cell? (Y b 0 U)=Z x0/\w.cell? (Y b 1 U)=Z o/\w.cell? (Y b 2 U)=Z x2)/\w.frozen? (Y b 0 U)=ak/\w.frozen? (Y b 1 U)=ak/\w.frozen? (Y b 2 U)=ak:=by
 refine⟨⟨?_,?_,?_⟩,?_,?_,?_⟩<;>simp[aN,World.frozen?,h]
theorem akw {y0 y1 y2:aw}:w.grownBy ((((w).setCell (Y n 0 U) y0).setCell (Y n 1 U) y1).setCell (Y n 2 U) y2) (Z n):=by
 refine eR ?_ rfl _;refine eR ?_ rfl _;refine eR ?_ rfl _;exact jh _ _
theorem aif {c:Nat}(h:Rd w rb e bl V ts v)(s:Bt)(hs:s.data.toList≠[])(S:aO s.data.toList ts=ap)(g:Nat)(fs T:Av)(eg:∀args w,(callFunc g args).run prog w=.ok (.enter g args) w)(d:BoxM w c rb s (.func (.func g) fs T))(W:rb<c)
 (P:List Tok->aA cV) (X:∀w' l,w.grownBy w' (Z rb)->Rd w' rb e bl V ts.tail l->aC prog g (fs++T) w' (dS w' rb e bl V (P ts.tail) (VM w'.heap.size))):
 aC prog 175 #[aB (Z (Y c 0 U)),aB (Z (Y (c+1) 0 U)),aB (Z (Y (c+2) 0 U))] w (dS w rb e bl V (P ts.tail) (VM w.heap.size)):=by
 obtain⟨z,m⟩:=nm (w.alloc (M #[H ⟨#[]⟩,A I 0,O U 0 0] 60));have lP:=J d.b2;have y:=eS m;have fE:=uJ m;have bU:=aa m;have bG:=d.fr (Fr.bm y) lP W;have k0:=bG.cells;have j0:=d.cells.1;have j1:=d.cells.2.1;have HM:ah (ag.aR e s.data.toList ts=.ok (nx ts).2.1 ts.tail):=(by show _=_;unfold ag.aR;rw[if_pos S]);have ad:=am (h.keeps y h.lt);have dz:=h.lt;have YT:c<w.heap.size:=(by omega);have YS:c+1<w.heap.size:=(by omega);clear h d S;go_enter func175,ntmps175;go_wp2_with fail;rw[<-m];refine(iI s hs ad).mono ?_;rintro x w1 ⟨n,⟨B,r,a,ae,l,rfl,rfl,C⟩|⟨cc,q,a,rfl,r,l,C⟩⟩
 ·rw[HM.out] at a;cases a;have E:=Fr.bP n (aD _);have aJ:=bG.fr E (by omega) W;have i:=aJ.cells.2.2;have F:=cU (dN _ y) n;have HP:=X w1 l F C;have gC:=am ((E.block _ (by omega) (by omega)).trans bU);have HG:=am F;have bZ:=n.size;clear n E aJ F C k0 j0 j1 X;go_wp2_with fail;refine HP.mono ?_;rintro x L ⟨o,⟨B,r,a,ae,v2,rfl,⟨p,t,u,i,d2,rfl,hx⟩,j⟩|⟨cc,q,a,rfl,r,v2,j⟩⟩
  ·have G:=(o.block _ (by omega) (by simp;omega)).trans gC;have iq:=J G;obtain⟨K,p0,p1,p2⟩:=apz G;have dX:=am (cU HG o);have eF:ah (P ts.tail=.ok B r):=a;have H2:=am j;have HX:=am hx;obtain⟨Q,N⟩:=nm ((((L).setCell (Y w.heap.size 0 U) (H p)).setCell (Y w.heap.size 1 U) (A I t)).setCell (Y w.heap.size 2 U) (O u i d2));have f:L.grownBy Q (Z w.heap.size):=(by rw[N];exact akw);have HV:ah (fW Q (fun b=>w.heap.size<=b) B [H p,A I t,O u i d2]):=ic.mono (ic.keeps hx (aP.bP f fun b d=>by simp;omega)) fun b d _=>(by omega);have R:aq w.heap.size L Q:=⟨f.os,f.tape,f.output,f.size,fun k hk=>f.block k (by omega) (by simp;omega)⟩;have Cf:ah (w.grownBy Q (Z rb)):=((Fr.bP dX (aD _)).trans (Fr.bm R)).grown;have jA:ah (Rd _ _ _ _ _ _ _):=j.keeps R (by omega);have tX:=am N;clear o a j hx G HP f R N;go_wp2;refine bodyPost_ret (v:=.agg #[H p,A I t,O u i d2]) (by simp[results,results175,go_sem,K.1,K.2.1,K.2.2]) rfl ?_;rw[<-tX.out];exact⟨Cf.out,.inl ⟨_,_,eF.out,_,_,rfl,⟨p,t,u,i,d2,rfl,HV.out⟩,jA.out⟩⟩
  ·exact⟨rfl,cU HG o,.inr ⟨_,_,a,rfl,_,_,j⟩⟩
 ·rw[HM.out] at a;cases a
structure Uq (w wr:au)(rb e:Nat)(bl pr:Int)(s:Bt)(most:Nat)(P:List Tok->aA cV)(all:aA (List cV))(f lv:aw)(acc:List cV)(ts:List Tok)(v:aw):Prop where
 own:bO fW wr (w.heap.size+3) 60 3 lv acc
 rd:Rd wr rb e bl pr ts v
 fr:Fr w.heap.size rb w wr
 box:BoxM wr w.heap.size rb s f
 kO:w.heap.size+3<=wr.heap.size
 len:acc.length<=most
 eq:all=ag.dU e s.data.toList P (most - acc.length) acc ts
theorem ajj (h:Rd w rb e bl V ts v)(s:Bt)(hs:s.data.toList≠[])(a:Nat)(hm:a<=1000)(qk:0<a)(g:Nat)(fs f:Av)(eg:∀args w,(callFunc g args).run prog w=.ok (.enter g args) w)
 (P:List Tok->aA cV) (Q:∀w' d C,w.grownBy w' (Z rb)->Rd w' rb e bl V d C->aC prog g (fs++f) w' (dS w' rb e bl V (P d) (VM w'.heap.size))):
 aC prog 124 #[aB (Z (Y rb 0 U)),H s,A I (a:Int),.func (.func g) fs f] w (dS w rb e bl V (ag.dT e s.data.toList a P ts) (fun w' l u=>bO fW w' (w.heap.size+3) 60 3 u l)):=by
 have lO:∀(W:Fn) (first X:Av) (w:au),(Instr.makeFunc W first X).run prog w=.ok (.func W first X) w:=fun _ _ _ _=>rfl;have n:=h.lt;obtain⟨z,o⟩:=nm (((w.alloc (M #[aB (Z (Y rb 0 U))] 39)).alloc (M #[H s] 9)).alloc (M #[.func (.func g) fs f] 128));have E:Bl w z:=(by rw[o];exact(((aF _ _).alloc (aD _) _).alloc (by simp) _).alloc (by simp;omega) _);have fE:=Pp o;have bG:BoxM z w.heap.size rb s (.func (.func g) fs f):=(by rw[o];exact⟨cR (cR (cu _ _ _ rfl)),cR (cu _ _ _ (by simp)),cu _ _ _ (by simp)⟩);have kj:=am bG;have tw:=am E;have oD:=Q z ts v (dN _ E) (h.keeps E h.lt);have HP:=am Q;clear h Q bG E;go_enter func124,ntmps124;go_wp2_with fail;rw[<-o];refine oD.mono ?_;rintro x w1 ⟨p,⟨F,r,b,u,v1,rfl,⟨z0,z1,z2,m2,d2,rfl,hx⟩,t⟩|⟨cc,q,b,rfl,r,v1,t⟩⟩
 ·have AK:ah (ag.dT e s.data.toList a P ts=ag.dU e s.data.toList P (a - 1) [F] r):=(by show _=_;unfold ag.dT;rw[b];rfl);have HS:ah (Uq w (w1.alloc (M #[H z0,A I z1,O z2 m2 d2] 60)) rb e bl V s a P (ag.dT e s.data.toList a P ts) (.func (.func g) fs f) (O (Z (Y w1.heap.size 0 U)) 1 1) [F] r v1):=(by have hz:=p.size;refine⟨bO.one ic (by rw[fE] at hx;exact hx) (by omega),t.keeps ((aF _ _).alloc (aD _) _) t.lt,(Fr.bm tw).trans ((Fr.bP p (by omega)).trans (Fr.bm ((aF _ _).alloc (by omega) _))),?_,by simp;omega,qk,AK.out⟩;exact(kj.fr (Fr.bP p (aD _)) (by omega) n).fr (Fr.bm ((aF _ _).alloc (aD _) _)) (by omega) n);clear p hx t oD b o;go_wp2;go_loopw [9] (fun lv wr=>∃c d C,Uq w wr rb e bl V s a P (ag.dT e s.data.toList a P ts) (.func (.func g) fs f) lv c d C) (fun lv _=>a - lenOf lv);case atStart=>exact⟨_,_,_,HS.out⟩
  case round=>
   obtain⟨c,d,C,j⟩:=hrel;obtain⟨ao,cc,rfl⟩:=j.own.slice;have i:=am j;have k0:=j.box.cells;have Ar:=j.kO;have ad:=j.len;clear j HS;go_wp2_with fail;refine(ui s i.rd).mono ?_;rintro x L ⟨rfl,k⟩;have R:=am (i.rd.keeps k i.rd.lt);have oE:=am (i.own.below ic k);have S:=am (i.box.fr (Fr.bm k) (by omega) n);have G:=am (i.fr.trans (Fr.bm (k.mono (by omega))));have bA:=k.size;have i0:=S.cells;clear k k0;cases hi:aO s.data.toList d with
   | false=>
    have K:ah (ag.dT e s.data.toList a P ts=.ok c d):=by
     show _=_;rw[i.eq];cases a - c.length with
     | zero=>unfold ag.dU;rw[if_neg (by simp[hi])]
     | succ m=>unfold ag.dU;rw[if_neg (by simp[hi])]
    clear hi;go_wp2;go_ret;exact⟨G.grown,.inl ⟨_,_,K.out,_,_,rfl,oE.out,R.out⟩⟩
   | true=>
    have kX:w.heap.size+3<=L.heap.size:=(by omega);have HN:=fun(w':au) (u9:aw) (hg:L.grownBy w' (Z rb)) (b:Rd w' rb e bl V d.tail u9)=>HP.out w' d.tail u9 ((G.trans (Fr.bP hg (by omega))).grown) b;have HM:=aiK R oE (by omega) kX a hm ad 175 #[] #[aB (Z (Y w.heap.size 0 U)),aB (Z (Y (w.heap.size+1) 0 U)),aB (Z (Y (w.heap.size+2) 0 U))] (enters_of func175 (by kernel_rfl) rfl) (P d.tail) (aif R s hs hi g fs f eg S n P HN);have K:ah (ag.dT e s.data.toList a P ts=if c.length=a then .no 2 (bI e d) else(P d.tail).bind fun F r=>ag.dU e s.data.toList P (a - (c.length+1)) (c++[F]) r):=by
     show _=_;rw[i.eq];by_cases hf:c.length=a
     ·rw[if_pos hf,show a - c.length=0 by omega];unfold ag.dU;rw[if_pos hi]
     ·rw[if_neg hf,show a - c.length=(a - (c.length+1))+1 by omega]
      conv=>lhs;unfold ag.dU
      rw[if_pos hi]
    clear HN hi;go_wp2_with fail;refine HM.mono ?_;rintro x w3 ⟨y,⟨l,r,b,u,v3,rfl,T,N⟩|⟨c3,q3,b,rfl,r,v3,N⟩⟩
    ·by_cases hf:c.length=a
     ·rw[if_pos hf] at b;cases b
     ·rw[if_neg hf] at b;obtain⟨a2,r2,B,b⟩:=ag.aQ b;cases b;have nI:ah (Uq w w3 rb e bl V s a P (ag.dT e s.data.toList a P ts) (.func (.func g) fs f) u (c++[a2]) r v3):=by
       refine⟨T,N,G.trans (y.mono (by omega)),S.fr y (by omega) n,by have:=y.size;omega,by simp;omega,?_⟩;rw[K.out,if_neg hf,B,List.length_append];rfl
      have eu:ah (lenOf u=c.length+1):=(by show _=_;rw[T.len];simp);clear y T N B;go_wp2;go_roundw;case rel=>exact⟨_,_,_,nI.out⟩
      case measure=>rw[eu.out];simp only[lenOf];omega
    ·have ez:=am ((G.trans (y.mono (by omega))).grown);refine⟨rfl,ez.out,.inr ⟨c3,q3,?_,rfl,_,_,N⟩⟩;rw[K.out];by_cases hf:c.length=a
     ·rw[if_pos hf] at b⊢;cases b;rfl
     ·rw[if_neg hf] at b⊢;cases B:P d.tail with
      | ok a2 r2=>rw[B] at b;cases b
      | no c2 q2=>rw[B] at b;cases b;rfl
 ·have e1:ag.dT e s.data.toList a P ts=.no cc q:=(by unfold ag.dT;rw[b];rfl);exact⟨rfl,cU (dN _ tw) p,.inr ⟨_,_,e1,rfl,_,_,t⟩⟩
theorem anH (h:Rd w rb e bl V ts v)(b s c:Bt)(hO:b.data.toList≠[])(hs:s.data.toList≠[])(hc:c.data.toList≠[])(d:Nat)(hm:d<=1000)(qk:0<d)(g:Nat)(fs G:Av)(eg:∀args w,(callFunc g args).run prog w=.ok (.enter g args) w)
 (P:List Tok->aA cV) (hp:∀w' o K,w.grownBy w' (Z rb)->Rd w' rb e bl V o K->aC prog g (fs++G) w' (dS w' rb e bl V (P o) (VM w'.heap.size))):
 aC prog 76 #[aB (Z (Y rb 0 U)),H b,H s,H c,A I (d:Int),.func (.func g) fs G] w (dS w rb e bl V (ag.ei e b.data.toList s.data.toList c.data.toList d P ts) (fun w' l u=>∃B,w.heap.size<=B/\bO fW w' B 60 3 u l)):=by
 have dz:=h.lt;have ae:=am h;have HP:=am hp;have Ci:ah (∀x a,ag.aR e b.data.toList ts=.ok x a->ag.ei e b.data.toList s.data.toList c.data.toList d P ts=(if aO c.data.toList a=ap then aA.ok [] a else ag.dT e s.data.toList d P a).bind fun l r2=>(ag.aR e c.data.toList r2).bind fun _ j=>.ok l j):=fun x a N=>(by show ag.ei _ _ _ _ _ _ _=_;unfold ag.ei;rw[N];rfl);have AR:ah (∀x a,ag.aR e b.data.toList ts=.no x a->ag.ei e b.data.toList s.data.toList c.data.toList d P ts=.no x a):=fun x a N=>(by show ag.ei _ _ _ _ _ _ _=_;unfold ag.ei;rw[N];rfl);clear h hp;go_enter func76,ntmps76;go_wp2_with fail;refine(iI b hO ae).mono ?_;rintro x w1 ⟨p,⟨a1,k,q,u1,v1,rfl,rfl,r⟩|⟨c1,q1,q,rfl,k,v1,r⟩⟩
 ·have m:=Ci.out _ _ q;have Q:=am r;have fL:=am p;have bZ:=p.size;clear r p q;go_wp2_with fail;refine(ui c Q).mono ?_;rintro x L ⟨rfl,t⟩;have H2:=am (Q.keeps t Q.lt);have y:=am (mH fL t);have bA:=t.size;clear t;cases hi:aO c.data.toList k with
  | true=>
   rw[if_pos hi] at m;have rx:ah (∀ad a,ag.aR e c.data.toList k=.ok ad a->ag.ei e b.data.toList s.data.toList c.data.toList d P ts=.ok [] a):=fun ad a J5=>(by rw[m];simp only[ag.aA.bind];rw[J5]);have HM:ah (ag.aR e c.data.toList k=.ok (nx k).2.1 k.tail):=(by show _=_;unfold ag.aR;rw[if_pos hi]);clear m hi;go_wp2_with fail;refine(iI c hc H2).mono ?_;rintro x w3 ⟨n,⟨a3,j,f,u3,R,rfl,rfl,i⟩|⟨c3,q3,f,rfl,j,R,i⟩⟩
   ·have AS:=rx.out _ _ f;have z:=am (cU y n);have S:=am i;have T:ah (ag.ei e b.data.toList s.data.toList c.data.toList d P ts=.ok [] j):=AS;clear n i f AS;go_wp2;go_ret;exact⟨z.out,.inl ⟨_,_,T.out,_,_,rfl,⟨w.heap.size,aD _,bO.nil _ _ _ _ _⟩,S.out⟩⟩
   ·rw[HM.out] at f;cases f
  | false=>
   rw[if_neg (by simp[hi])] at m;have HL:=ajj H2 s hs d hm qk g fs G eg P (fun w' o K hg hr=>HP.out w' o K (cU y hg) hr);have fM:=am m;clear m hi;go_wp2_with fail;refine HL.mono ?_;rintro x w3 ⟨n,⟨l,j,f,u3,R,rfl,W,i⟩|⟨c3,q3,f,rfl,j,R,i⟩⟩
   ·obtain⟨ao,cc,rfl⟩:=W.slice;have X:=fM.out;rw[f] at X;have zI:ah (ag.ei e b.data.toList s.data.toList c.data.toList d P ts=(ag.aR e c.data.toList j).bind fun _ C=>.ok l C):=X;have wh:=am W;have S:=am i;have z:ah (w.grownBy w3 (Z rb)):=cU y n;clear X W i n f HL;go_wp2_with fail;refine(iI c hc S).mono ?_;rintro x w4 ⟨dg,⟨a4,C,E,u4,v4,rfl,rfl,F⟩|⟨c4,q4,E,rfl,C,v4,F⟩⟩
    ·have T:ah (ag.ei e b.data.toList s.data.toList c.data.toList d P ts=.ok l C):=(by show _=_;rw[zI.out,E];rfl);have Mb:ah (bO _ _ _ _ _ _ _):=wh.grown ic dg (by omega);have H4:ah (Rd _ _ _ _ _ _ _):=F;have lH:ah (w.grownBy w4 (Z rb)):=cU z dg;clear E dg F;go_wp2;go_ret;exact⟨lH.out,.inl ⟨_,_,T.out,_,_,rfl,⟨L.heap.size+3,by omega,Mb.out⟩,H4.out⟩⟩
    ·refine⟨rfl,cU z dg,.inr ⟨c4,q4,?_,rfl,_,_,F⟩⟩;rw[zI.out,E];rfl
   ·refine⟨rfl,cU y n,.inr ⟨c3,q3,?_,rfl,_,_,i⟩⟩;rw[fM.out,f];rfl
 ·exact⟨rfl,p,.inr ⟨_,_,AR.out _ _ q,rfl,_,_,r⟩⟩
theorem Tryz.RR:(prog.info? 57).map (fun i=>(i.zero,i.size,i.bytes))=Z (Z (.agg #[A I 0,H ⟨#[]⟩,az ak,A I 0,O U 0 0]),5,64):=by kernel_rfl
def VC (B:Nat)(w':au)(a:ii)(u:aw):Prop:=∃(z0:Int) (z1:Bt) (z2:Bool) (z3:Int) (z4:Oa) (m4 d4:Nat),u=.agg #[A I z0,H z1,az z2,A I z3,O z4 m4 d4]/\pu w' (fun b=>B<=b) a [A I z0,H z1,az z2,A I z3,O z4 m4 d4]
theorem Rs (w:au)(e:TypeId):∀j u,([x0,o,x2,x3,x4]:Lv)[j]? =Z u->(w.alloc (M #[x0,o,x2,x3,x4] e)).cell? (((Y w.heap.size 0 U):Addr).add j)=Z u:=by
 intro j u a;have b:(w.alloc (M #[x0,o,x2,x3,x4] e)).cell? (Y w.heap.size j U)=(#[x0,o,x2,x3,x4]:Av)[j]? :=World.cell?_alloc_at _ _ _ _ (by simp);have c:((Y w.heap.size 0 U):Addr).add j=(Y w.heap.size j U):=(by simp[Addr.add];intro h;exact h.symm);rw[c,b];simpa using a
theorem Yr (h:Rd w rb e bl V ts v){css:List (Lv)}(C:w.ownsRow B 57 5 lv n css.flatten)(X:rb<B)(G:B<=w.heap.size)(a:Nat)(hm:a<=1000)(nX:n<=a)
 (g:Nat) (fs K:Av) (eg:∀args w,(callFunc g args).run prog w=.ok (.enter g args) w) (i:aA ii) (N:aC prog g (fs++K) w (dS w rb e bl V i (VC w.heap.size))):
 aC prog 36 #[aB (Z (Y rb 0 U)),lv,A I (a:Int),.func (.func g) fs K] w (se pu w rb e bl V B 57 5 a n css lv ts i):=by
 obtain⟨E,c,rfl⟩:=nt C;have ad:ah (Rd w rb e bl V ts v):=h;have HO:ah (w.ownsRow B 57 5 (O E n c) n css.flatten):=C;have HB:ah (B<=w.heap.size):=G;clear h C G;by_cases hf:n=a
 ·have hi:((n:Int)==(a:Int))=ap:=(by simp[hf]);have j:ah (n=a):=hf;clear hf N;go_enter func36,ntmps36;go_wp2_with fail;refine(tJ _ ad.out).mono ?_;rintro x L ⟨rfl,bS⟩;subst bS;exact⟨rfl,.inl ⟨j.out,rfl,rfl⟩⟩
 ·have hi:((n:Int)==(a:Int))=ak:=(by simp;omega);have j:ah (n≠a):=hf;obtain⟨i0,gT,cL,bZ,bA⟩:=info_parts Tryz.RR;have jO:n<1000:=(by omega);clear hf;go_enter func36,ntmps36;go_wp2_with fail;refine N.mono ?_;rintro x d ⟨f,⟨F,r,k,ae,l,rfl,⟨m,o,p,s,t,u,d4,rfl,hx⟩,y⟩|⟨cc,q,k,rfl,r,l,y⟩⟩
  ·have HG:ah (w.grownBy d (Z rb)):=f;have sk:ah (i=.ok F r):=k;have P:ah (Rd d rb e bl V r l):=y;have Q:ah (pu d (fun b=>w.heap.size<=b) F [A I m,H o,az p,A I s,O t u d4]):=hx;have HP:ah (d.ownsRow B 57 5 (O E n c) n css.flatten):=vx HO.out f X;have xr:w.heap.size<=d.heap.size:=f.size;clear f y hx k;go_wp2_with (at_builtin;refine wpList_append_own_at _ rfl _ _ 24 rfl B 57 i0 (.agg #[A I 0,H ⟨#[]⟩,az ak,A I 0,O U 0 0]) 5 64 underlying24 gT cL bZ bA rfl (by decide) _ _ _ rfl (World.ownsRow.alloc HP.out _) (Y d.heap.size 0 U) 1 1 [A I m,H o,az p,A I s,O t u d4] rfl rfl ?c1 ?c2 ?c3 ?c4 ?c5 ?_);case c1=>exact Rs _ _
   case c2=>exact gy.one Q.out
   case c3=>unfold maxLen;omega
   case c4=>omega
   case c5=>have:=HB.out;simp;omega
   ·intro R L S T _ W;have z:Bl d (d.alloc (M #[A I m,H o,az p,A I s,O t u d4] 57)):=(aF _ _).alloc (aD _) _;have HN:ah (se pu w rb e bl V B 57 5 a n css (O E n c) ts i (aE R) L):=.inr ⟨j.out,.inr ⟨F,r,R,l,[A I m,H o,az p,A I s,O t u d4],_,sk.out,rfl,HG.trans (dN _ z),gy.keeps Q.out (aP.bm z),T,S,by simpa using W,P.keeps z P.lt⟩⟩;clear S T W z;go_wp2;go_ret;exact HN.out
  ·exact⟨rfl,.inr ⟨j.out,.inl ⟨cc,q,k,rfl,f,r,l,y⟩⟩⟩
theorem Tryz.Zp:(prog.info? 55).map (fun i=>(i.zero,i.size,i.bytes))=Z (Z (.agg #[H ⟨#[]⟩,H ⟨#[]⟩]),2,32):=by kernel_rfl
def VA (B:Nat)(w':au)(a:(Bt×Bt))(u:aw):Prop:=∃(z0 z1:Bt),u=.agg #[H z0,H z1]/\uf w' (fun b=>B<=b) a [H z0,H z1]
theorem Yi (w:au)(e:TypeId):∀j u,([x0,o]:Lv)[j]? =Z u->(w.alloc (M #[x0,o] e)).cell? (((Y w.heap.size 0 U):Addr).add j)=Z u:=by
 intro j u a;have b:(w.alloc (M #[x0,o] e)).cell? (Y w.heap.size j U)=(#[x0,o]:Av)[j]? :=World.cell?_alloc_at _ _ _ _ (by simp);have c:((Y w.heap.size 0 U):Addr).add j=(Y w.heap.size j U):=(by simp[Addr.add];intro h;exact h.symm);rw[c,b];simpa using a
theorem aiG (h:Rd w rb e bl V ts v){css:List (Lv)}(t:w.ownsRow B 55 2 lv n css.flatten)(R:rb<B)(z:B<=w.heap.size)(a:Nat)(hm:a<=1000)(nX:n<=a)
 (g:Nat) (fs C:Av) (eg:∀args w,(callFunc g args).run prog w=.ok (.enter g args) w) (i:aA (Bt×Bt)) (E:aC prog g (fs++C) w (dS w rb e bl V i (VA w.heap.size))):
 aC prog 34 #[aB (Z (Y rb 0 U)),lv,A I (a:Int),.func (.func g) fs C] w (se uf w rb e bl V B 55 2 a n css lv ts i):=by
 obtain⟨u,c,rfl⟩:=nt t;have S:ah (Rd w rb e bl V ts v):=h;have T:ah (w.ownsRow B 55 2 (O u n c) n css.flatten):=t;have W:ah (B<=w.heap.size):=z;clear h t z;by_cases hf:n=a
 ·have X:((n:Int)==(a:Int))=ap:=(by simp[hf]);have j:ah (n=a):=hf;clear hf E;go_enter func34,ntmps34;go_wp2_with fail;refine(tJ _ S.out).mono ?_;rintro x L ⟨rfl,bS⟩;subst bS;exact⟨rfl,.inl ⟨j.out,rfl,rfl⟩⟩
 ·have X:((n:Int)==(a:Int))=ak:=(by simp;omega);have j:ah (n≠a):=hf;obtain⟨i0,gT,cL,bZ,bA⟩:=info_parts Tryz.Zp;have jO:n<1000:=(by omega);clear hf;go_enter func34,ntmps34;go_wp2_with fail;refine E.mono ?_;rintro x d ⟨f,⟨y,r,k,ad,l,rfl,⟨m,o,rfl,hx⟩,p⟩|⟨cc,q,k,rfl,r,l,p⟩⟩
  ·have HG:ah (w.grownBy d (Z rb)):=f;have sk:ah (i=.ok y r):=k;have F:ah (Rd d rb e bl V r l):=p;have G:ah (uf d (fun b=>w.heap.size<=b) y [H m,H o]):=hx;have HP:ah (d.ownsRow B 55 2 (O u n c) n css.flatten):=vx T.out f R;have xr:w.heap.size<=d.heap.size:=f.size;clear f p hx k;go_wp2_with (at_builtin;refine wpList_append_own_at _ rfl _ _ 23 rfl B 55 i0 (.agg #[H ⟨#[]⟩,H ⟨#[]⟩]) 2 32 underlying23 gT cL bZ bA rfl (by decide) _ _ _ rfl (World.ownsRow.alloc HP.out _) (Y d.heap.size 0 U) 1 1 [H m,H o] rfl rfl ?c1 ?c2 ?c3 ?c4 ?c5 ?_);case c1=>exact Yi _ _
   case c2=>exact ia.one G.out
   case c3=>unfold maxLen;omega
   case c4=>omega
   case c5=>have:=W.out;simp;omega
   ·intro K L N P _ Q;have s:Bl d (d.alloc (M #[H m,H o] 55)):=(aF _ _).alloc (aD _) _;have HN:ah (se uf w rb e bl V B 55 2 a n css (O u n c) ts i (aE K) L):=.inr ⟨j.out,.inr ⟨y,r,K,l,[H m,H o],_,sk.out,rfl,HG.trans (dN _ s),ia.keeps G.out (aP.bm s),P,N,by simpa using Q,F.keeps s F.lt⟩⟩;clear N P Q s;go_wp2;go_ret;exact HN.out
  ·exact⟨rfl,.inr ⟨j.out,.inl ⟨cc,q,k,rfl,f,r,l,p⟩⟩⟩
open ag (Tok Po Tr nx bI aO ba aA aV cV ii dV bL)
structure wI {α:Type}(w wr:au)(rb e:Nat)(bl pr:Int)(res:aA α)(K:List Tok->aA α)(ts:List Tok)(v:aw):Prop where
 gr:w.grownBy wr (Z rb)
 rd:Rd wr rb e bl pr ts v
 eq:res=K ts
 lo:rb<w.heap.size
theorem wI.later {a:Type}{b:aA a}{K:List Tok->aA a}(h:wI w wr rb e bl V b K ts v)(c:Bl wr w'):wI w w' rb e bl V b K ts v:=
 ⟨mH h.gr c,h.rd.keeps c h.rd.lt,h.eq,h.lo⟩
theorem tS {d k:Type}{f:aA k}{P:List Tok->aA d}{l:d->List Tok->aA k}{m:au->d->aw->Prop}(h:wI w wr rb e bl V f (fun ts=>(P ts).bind l) ts v)(n:dS wr rb e bl V (P ts) m x w'):
 (∃a r u b,x=aE u/\m w' a u/\wr.grownBy w' (Z rb)/\wI w w' rb e bl V f (l a) r b)\/(w.grownBy w' (Z rb)/\∃c q,f=.no c q/\x=At c q/\∃r b,Rd w' rb e bl V r b):=by
 obtain⟨g,⟨a,r,i,u,b,hx,o,j⟩|⟨c,q,i,hx,r,b,j⟩⟩:=n
 ·exact .inl ⟨a,r,u,b,hx,o,g,cU h.gr g,j,by rw[h.eq,i];rfl,h.lo⟩
 ·exact .inr ⟨cU h.gr g,c,q,by rw[h.eq,i];rfl,hx,r,b,j⟩
theorem OV {b:Type}{K:List Tok->aA b}(h:Rd w rb e bl V ts v)(a:Bl w z):wI w z rb e bl V (K ts) K ts v:=
 ⟨dN _ a,h.keeps a h.lt,rfl,h.lt⟩
theorem dq {a:Obj}(d:w.grownBy w' (Z rb))(c:w.heap[b]? =Z a)(e:b≠rb):w'.heap[b]? =Z a:=(d.block _ (J c) (by simp;exact e)).trans c
theorem Lo (h:w.grownBy wr (Z rb))(a:aq w.heap.size wr Q):w.grownBy Q (Z rb):=((Fr.bP h (aD _)).trans (Fr.bm a)).grown
theorem aoE (h:Rd w rb e bl V ts v):
 aC prog 33 #[aB (Z (Y rb 0 U))] w (dS w rb e bl V (ag.vO e ts) (VS w.heap.size)):=by
 obtain⟨B,i⟩:=nm (ag.vO e ts);rw[<-i];have k:ah (wI w w rb e bl V B (fun ts=>(ag.aR e ag.nl ts).bind fun _ C=>(ag.bR e C).bind fun s l=>(ag.aR e [59] l).bind fun _ m=>.ok s m) ts v):=(by rw[i];exact OV (K:=ag.vO e) h (aF _ _));clear h i;go_enter func33,ntmps33;go_wp2_with fail;refine(iI ⟨#[99,104,105,101,102]⟩ (by decide) k.rd).mono ?_;intro x F a;rcases tS (P:=ag.aR e ag.nl) k a with⟨G,r,n,b,rfl,rfl,_,o⟩|⟨d,c,q,f,rfl,r,b,g⟩;rotate_left
 ·exact⟨rfl,d,.inr ⟨c,q,f,rfl,r,b,g⟩⟩
 have p:=am o;clear a o;go_wp2_with fail;refine(uh p.rd).mono ?_;intro x L a;rcases tS p a with⟨s,l,n,N,rfl,⟨rfl,t⟩,_,u⟩|⟨d,c,q,f,rfl,r,b,g⟩;rotate_left
 ·exact⟨rfl,d,.inr ⟨c,q,f,rfl,r,b,g⟩⟩
 have y:=am u;clear a u;go_wp2_with fail;refine(iI ⟨#[59]⟩ (by decide) y.rd).mono ?_;intro x Q a;rcases tS (P:=ag.aR e [59]) y a with⟨R,m,n,S,rfl,rfl,_,z⟩|⟨d,c,q,f,rfl,r,b,g⟩;rotate_left
 ·exact⟨rfl,d,.inr ⟨c,q,f,rfl,r,b,g⟩⟩
 have j:=am z;have E:=am t;clear a z t;go_wp2;go_ret;exact⟨j.gr,.inl ⟨s,_,j.eq,_,_,rfl,⟨s,rfl,rfl,E.out⟩,j.rd⟩⟩
theorem aqt (h:Rd w rb e bl V ts v):
 aC prog 35 #[aB (Z (Y rb 0 U))] w (dS w rb e bl V (ag.vS e ts) (VA w.heap.size)):=by
 obtain⟨ad,m⟩:=nm (ag.vS e ts);rw[<-m];have aK:=h.lt;obtain⟨z,i⟩:=nm (w.alloc (M #[H ⟨#[]⟩,H ⟨#[]⟩] 55));have C:=eS i;have E:=aa i;have F:ah (wI w z rb e bl V ad (fun ts=>(ag.aR e ag.oG ts).bind fun _ r1=>(ag.bR e r1).bind fun s G=>(ag.bR e G).bind fun t N=>(ag.aR e [59] N).bind fun _ r4=>.ok (s,t) r4) ts v):=(by rw[m];exact OV (K:=ag.vS e) h C);have HN:=am E;clear h m C E;go_enter func35,ntmps35;go_wp2_with fail;rw[<-i];clear i;refine(iI ⟨#[97,99,116,115]⟩ (by decide) F.rd).mono ?_;intro x w1 a;rcases tS (P:=ag.aR e ag.oG) F a with⟨ai,r,n,b,rfl,rfl,R,S⟩|⟨d,c,q,f,rfl,r,b,g⟩;rotate_left
 ·exact⟨rfl,d,.inr ⟨c,q,f,rfl,r,b,g⟩⟩
 have T:=am S;have zC:=am (dq R HN (by omega));clear a S R;go_wp2_with fail;refine(uh T.rd).mono ?_;intro x L a;rcases tS T a with⟨s,G,n,v2,rfl,⟨rfl,W⟩,X,aM⟩|⟨d,c,q,f,rfl,r,b,g⟩;rotate_left
 ·exact⟨rfl,d,.inr ⟨c,q,f,rfl,r,b,g⟩⟩
 have dX:=am aM;have oC:=am W;have ld:=am (dq X zC (by omega));clear a aM X W;go_wp2_with fail;refine(uh dX.rd).mono ?_;intro x w3 a;rcases tS dX a with⟨t,N,n,v3,rfl,⟨rfl,CS⟩,jD,bY⟩|⟨d,c,q,f,rfl,r,b,g⟩;rotate_left
 ·exact⟨rfl,d,.inr ⟨c,q,f,rfl,r,b,g⟩⟩
 have ae:=am CS;have o:=dq jD ld (by omega);obtain⟨w4,j⟩:=nm (w3.alloc (M #[H s,H t] 55));have p:=eS j;have AN:=am (ku p o);have af:=am (aa j);have lH:=am (bY.later p);have ao:=J o;clear a bY jD CS o p;go_wp2_with fail;rw[<-j];clear j;refine(iI ⟨#[59]⟩ (by decide) lH.rd).mono ?_;intro x w5 a;rcases tS (P:=ag.aR e [59]) lH a with⟨a5,r5,n,v5,rfl,rfl,u,gN⟩|⟨d,c,q,f,rfl,r,b,g⟩;rotate_left
 ·exact⟨rfl,d,.inr ⟨c,q,f,rfl,r,b,g⟩⟩
 have k:=dq u AN (by omega);have y:=dq u af (by omega);have Gc:=am k;have l:=am gN;obtain⟨⟨e0,e1⟩,g0,g1⟩:=FR k;obtain⟨⟨i0,i1⟩,_⟩:=FR y;have l5:=J k;have l6:=J y;clear a u gN k y;go_wp2;obtain⟨Q,B⟩:=nm ((w5.setCell (Y w.heap.size 0 U) (H s)).setCell (Y w.heap.size 1 U) (H t));have dF:aq w.heap.size w5 Q:=(by rw[B];exact((aF _ _).setCell (by simp) _).setCell (by simp) _);have jd:Q.heap[w.heap.size]? =Z (M #[H s,H t] 55):=(by rw[B];simp[bw,dM,Gc.out]);rw[<-B];obtain⟨⟨k0,k1⟩,_⟩:=FR jd;refine bodyPost_ret (v:=.agg #[H s,H t]) (by simp[results,results35,go_sem,k0,k1]) rfl ?_;exact⟨Lo l.gr dF,.inl ⟨(s,t),_,l.eq,_,_,rfl,⟨s,t,rfl,rfl,oC.out,ae.out⟩,l.rd.keeps dF l.lo⟩⟩
theorem Zd (h:Rd w rb e bl V ts v):
 aC prog 78 #[aB (Z (Y rb 0 U))] w (dS w rb e bl V ((ag.nO e ts).bind fun k r=>.ok (⟨ba [],k.1,k.2⟩:cV) r) (VM w.heap.size)):=by
 obtain⟨ad,bU⟩:=nm (((ag.nO e ts).bind fun k r=>.ok (⟨ba [],k.1,k.2⟩:cV) r));rw[<-bU];have aK:=h.lt;obtain⟨z,aI⟩:=nm (w.alloc (M #[H ⟨#[]⟩,A I 0,O U 0 0] 60));have cw:=eS aI;have HN:=am (aa aI);have HG:ah (wI w z rb e bl V ad (fun ts=>(ag.aR e [58] ts).bind fun _ r1=>(ag.kn e r1).bind fun t d=>(ag.fX e d).bind fun l F=>.ok (⟨ba [],t,l⟩:cV) F) ts v):=by
  have m:=OV (K:=fun ts=>(ag.nO e ts).bind fun k r=>.ok (⟨ba [],k.1,k.2⟩:cV) r) h cw;refine⟨m.gr,m.rd,?_,m.lo⟩;rw[bU];unfold ag.nO;cases ag.aR e [58] ts with
  | no c q=>rfl
  | ok af r=>
   show((ag.kn e r).bind _).bind _=(ag.kn e r).bind _;cases ag.kn e r with
   | no c q=>rfl
   | ok t d=>
    show((ag.fX e d).bind _).bind _=(ag.fX e d).bind _;cases ag.fX e d<;>rfl
 clear h bU cw;go_enter func78,ntmps78;go_wp2_with fail;rw[<-aI];clear aI;refine(iI ⟨#[58]⟩ (by decide) HG.rd).mono ?_;intro x w1 a;rcases tS (P:=ag.aR e [58]) HG a with⟨af,r,ae,j,rfl,rfl,mB,aZ⟩|⟨n,c,q,o,rfl,r,j,p⟩;rotate_left
 ·exact⟨rfl,n,.inr ⟨c,q,o,rfl,r,j,p⟩⟩
 have G:=am aZ;have zC:=am (dq mB HN (by omega));clear a aZ mB;go_wp2_with fail;refine(EA ⟨#[105,110,116]⟩ (by decide) G.rd).mono ?_;rintro x L ⟨rfl,mA,v2,N⟩;have iq:=dq mA zC (by omega);have R:=am iq;have zA:=am (cU G.gr mA);clear mA iq;cases hi:aO (⟨#[105,110,116]⟩:Bt).data.toList r with
 | true=>
  rw[hi] at N;have S:ah (wI w L rb e bl V ad (fun d=>(ag.fX e d).bind fun l F=>.ok (⟨ba [],1,l⟩:cV) F) r.tail v2):=by
   refine⟨zA.out,N,?_,G.lo⟩;rw[G.eq];have m:ag.kn e r=.ok 1 r.tail:=(by unfold ag.kn;exact if_pos hi);rw[m];rfl
  clear hi N;go_wp2_with fail;refine(JX S.rd).mono ?_;intro x s a;rcases tS S a with⟨l,r5,ae,v5,rfl,⟨u,y,B,rfl,T⟩,W,X⟩|⟨n,c,q,o,rfl,r,j,p⟩;rotate_left
  ·exact⟨rfl,n,.inr ⟨c,q,o,rfl,r,j,p⟩⟩
  have f:=dq W R (by omega);have Gc:ah (_=Z (eV #[H ⟨#[]⟩,A I 0,O U 0 0] _ _)):=f;have g:ah _:=X;have bS:w.heap.size<L.heap.size:=J R;have Ge:ah (dw _ (fun b=>w.heap.size+1<=b) _ _):=T.mono fun b hb _=>(by omega);have e0:=ox f;have l5:=J f;clear a W X f T;go_wp2;obtain⟨Q,i⟩:∃Q,Q=((s.setCell (Y w.heap.size 0 U) (H ⟨#[]⟩)).setCell (Y w.heap.size 1 U) (A I 1)).setCell (Y w.heap.size 2 U) (O u y B):=⟨_,rfl⟩;have C:aq w.heap.size s Q:=(by rw[i];exact(((aF _ _).setCell (by simp) _).setCell (by simp) _).setCell (by simp) _);have fk:∀k,k≠w.heap.size->Q.heap[k]? =s.heap[k]? :=fun k E=>(by rw[i,dL _ _ _ _ E,dL _ _ _ _ E,dL _ _ _ _ E]);have jd:Q.heap[w.heap.size]? =Z (M #[H ⟨#[]⟩,A I 1,O u y B] 60):=(by rw[i];simp[bw,dM,Gc.out]);rw[<-i];obtain⟨⟨k0,k1,k2⟩,_⟩:=ox jd;refine bodyPost_ret (v:=.agg #[H ⟨#[]⟩,A I 1,O u y B]) (by simp[results,results78,go_sem,k0,k1,k2]) rfl ?_;have mD:=(Ge.keeps (w':=Q) ⟨C.size,fun b hb _=>fk b (by omega)⟩).mono (S':=fun b=>w.heap.size<=b) fun b hb _=>(by omega);exact⟨Lo g.gr C,.inl ⟨_,_,g.eq,_,_,rfl,⟨_,_,_,_,_,rfl,_,rfl,(by show(ba []).size<=maxLen;decide),mD⟩,g.rd.keeps C g.lo⟩⟩
 | false=>
  rw[hi] at N;have Ms:ah (wI w L rb e bl V ad (fun r1=>(ag.aR e ag.zX r1).bind fun _ d=>(ag.fX e d).bind fun l F=>.ok (⟨ba [],2,l⟩:cV) F) r v2):=by
   refine⟨zA.out,N,?_,G.lo⟩;rw[G.eq];have m:ag.kn e r=(ag.aR e ag.zX r).bind fun _ r=>.ok 2 r:=(by unfold ag.kn;exact if_neg (by rw[show ag.MP=(⟨#[105,110,116]⟩:Bt).data.toList from rfl,hi];simp));rw[m];cases ag.aR e ag.zX r<;>rfl
  clear hi N;go_wp2_with fail;refine(iI ⟨#[98,111,111,108]⟩ (by decide) Ms.rd).mono ?_;intro x w3 a;rcases tS (P:=ag.aR e ag.zX) Ms a with⟨a3,F,ae,v3,rfl,rfl,jD,bY⟩|⟨n,c,q,o,rfl,r,j,p⟩;rotate_left
  ·exact⟨rfl,n,.inr ⟨c,q,o,rfl,r,j,p⟩⟩
  have S:=am bY;have dI:=dq jD R (by omega);have R:=am dI;clear a bY jD dI;go_wp2_with fail;refine(JX S.rd).mono ?_;intro x s a;rcases tS S a with⟨l,r5,ae,v5,rfl,⟨u,y,B,rfl,T⟩,W,X⟩|⟨n,c,q,o,rfl,r,j,p⟩;rotate_left
  ·exact⟨rfl,n,.inr ⟨c,q,o,rfl,r,j,p⟩⟩
  have f:=dq W R (by omega);have Gc:ah (_=Z (eV #[H ⟨#[]⟩,A I 0,O U 0 0] _ _)):=f;have g:ah _:=X;have bS:w.heap.size<w3.heap.size:=J R;have Ge:ah (dw _ (fun b=>w.heap.size+1<=b) _ _):=T.mono fun b hb _=>(by omega);have e0:=ox f;have l5:=J f;clear a W X f T;go_wp2;obtain⟨Q,i⟩:∃Q,Q=((s.setCell (Y w.heap.size 0 U) (H ⟨#[]⟩)).setCell (Y w.heap.size 1 U) (A I 2)).setCell (Y w.heap.size 2 U) (O u y B):=⟨_,rfl⟩;have C:aq w.heap.size s Q:=(by rw[i];exact(((aF _ _).setCell (by simp) _).setCell (by simp) _).setCell (by simp) _);have fk:∀k,k≠w.heap.size->Q.heap[k]? =s.heap[k]? :=fun k E=>(by rw[i,dL _ _ _ _ E,dL _ _ _ _ E,dL _ _ _ _ E]);have jd:Q.heap[w.heap.size]? =Z (M #[H ⟨#[]⟩,A I 2,O u y B] 60):=(by rw[i];simp[bw,dM,Gc.out]);rw[<-i];obtain⟨⟨k0,k1,k2⟩,_⟩:=ox jd;refine bodyPost_ret (v:=.agg #[H ⟨#[]⟩,A I 2,O u y B]) (by simp[results,results78,go_sem,k0,k1,k2]) rfl ?_;have mD:=(Ge.keeps (w':=Q) ⟨C.size,fun b hb _=>fk b (by omega)⟩).mono (S':=fun b=>w.heap.size<=b) fun b hb _=>(by omega);exact⟨Lo g.gr C,.inl ⟨_,_,g.eq,_,_,rfl,⟨_,_,_,_,_,rfl,_,rfl,(by show(ba []).size<=maxLen;decide),mD⟩,g.rd.keeps C g.lo⟩⟩
theorem XQ (h:Rd w rb e bl V ts v):
 aC prog 75 #[aB (Z (Y rb 0 U))] w (dS w rb e bl V (ag.gY e ts) (VM w.heap.size)):=by
 obtain⟨ad,o⟩:=nm (ag.gY e ts);rw[<-o];have aK:=h.lt;obtain⟨z,i⟩:=nm (w.alloc (M #[H ⟨#[]⟩,A I 0,O U 0 0] 60));have F:=eS i;have HN:=am (aa i);have G:ah (wI w z rb e bl V ad (fun ts=>(ag.bR e ts).bind fun s r1=>((ag.nO e r1).bind fun k r=>.ok (⟨ba [],k.1,k.2⟩:cV) r).bind fun q N=>.ok (⟨s,q.type,q.eo⟩:cV) N) ts v):=by
  have p:=OV (K:=ag.gY e) h F;refine⟨p.gr,p.rd,?_,p.lo⟩;rw[o];unfold ag.gY;cases ag.bR e ts with
  | no c q=>rfl
  | ok s r=>
   show(ag.nO e r).bind _=((ag.nO e r).bind _).bind _;cases ag.nO e r<;>rfl
 clear h o F;go_enter func75,ntmps75;go_wp2_with fail;rw[<-i];clear i;refine(uh G.rd).mono ?_;intro x w1 g;rcases tS G g with⟨s,r,ae,j,rfl,⟨rfl,R⟩,S,T⟩|⟨t,c,q,u,rfl,r,j,y⟩;rotate_left
 ·exact⟨rfl,t,.inr ⟨c,q,u,rfl,r,j,y⟩⟩
 have W:=am T;have oC:ah (s.size<=maxLen):=R;have X:=am (dq S HN (by omega));clear g T S R;go_wp2_with fail;refine(Zd W.rd).mono ?_;intro x L g;rcases tS (P:=fun ts=>(ag.nO e ts).bind fun k r=>.ok (⟨ba [],k.1,k.2⟩:cV) r) W g with⟨q2,N,ae,v2,rfl,⟨z0,a,d,f,d2,rfl,yN⟩,mA,aM⟩|⟨t,c,q,u,rfl,r,j,y⟩;rotate_left
 ·exact⟨rfl,t,.inr ⟨c,q,u,rfl,r,j,y⟩⟩
 have l:=dq mA X (by omega);have m:ah _:=aM;have ql:=J X;have Vb:ah (fW _ (fun b=>w.heap.size+1<=b) _ [H z0,A I a,O d f d2]):=ic.mono yN fun b hb _=>(by omega);have ld:=am l;have e0:=ox l;have l5:=J l;have bh:¬L.heap.size=w.heap.size:=(by omega);have af:¬w.heap.size=L.heap.size:=(by omega);clear g mA aM l yN;go_wp2;obtain⟨Q,n⟩:=nm ((((L.setCell (Y w.heap.size 0 U) (H s)).setCell (Y w.heap.size 1 U) (A I a)).setCell (Y w.heap.size 2 U) (O d f d2)).alloc (M #[H s,A I a,O d f d2] 60));have B:aq w.heap.size L Q:=(by rw[n];exact((((aF _ _).setCell (by simp) _).setCell (by simp) _).setCell (by simp) _).alloc (by simp[bw];omega) _);have fk:∀k,k<L.heap.size->k≠w.heap.size->Q.heap[k]? =L.heap[k]? :=fun k C E=>(by rw[n,Below.heap_alloc _ _ _ (by simpa[bw] using C),dL _ _ _ _ E,dL _ _ _ _ E,dL _ _ _ _ E]);have jd:Q.heap[w.heap.size]? =Z (M #[H s,A I a,O d f d2] 60):=(by rw[n];exact cR (by simp[bw,dM,ld.out]));rw[<-n];obtain⟨⟨k0,k1,k2⟩,_⟩:=ox jd;refine bodyPost_ret (v:=.agg #[H s,A I a,O d f d2]) (by simp[results,results75,go_sem,k0,k1,k2]) rfl ?_;have Kl:fW _ (fun b=>w.heap.size+1<=b) _ [H z0,A I a,O d f d2]:=ic.keeps Vb ⟨B.size,fun b hb C=>fk b C (by omega)⟩;obtain⟨lv,h1,_,h3⟩:=Kl;simp only[List.cons.injEq,Value.int.injEq,and_true,true_and] at h1;obtain⟨_,h4,rfl⟩:=h1;exact⟨Lo m.gr B,.inl ⟨_,_,m.eq,_,_,rfl,⟨_,_,_,_,_,rfl,_,(by rw[h4]),oC.out,h3.mono fun b hb _=>by omega⟩,m.rd.keeps B m.lo⟩⟩
theorem abY {e:TypeId}(h:w.heap[b]? =Z (M #[x0,o,x2,x3,x4] e)):(w.cell? (Y b 0 U)=Z x0/\w.cell? (Y b 1 U)=Z o/\w.cell? (Y b 2 U)=Z x2/\w.cell? (Y b 3 U)=Z x3/\w.cell? (Y b 4 U)=Z x4)/\w.frozen? (Y b 0 U)=ak/\w.frozen? (Y b 1 U)=ak/\w.frozen? (Y b 2 U)=ak/\w.frozen? (Y b 3 U)=ak/\w.frozen? (Y b 4 U)=ak:=by
 refine⟨⟨?_,?_,?_,?_,?_⟩,?_,?_,?_,?_,?_⟩<;>simp[aN,World.frozen?,h]
theorem abP (h:Rd w rb e bl V (t::F) v):
 aC prog 37 #[aB (Z (Y rb 0 U))] w (dS w rb e bl V (ag.td e (t::F)) (VC w.heap.size)):=by
 obtain⟨ad,C⟩:=nm (ag.td e (t::F));rw[<-C];have aK:=h.lt;obtain⟨z,m⟩:=nm (w.alloc (M #[A I 0,H ⟨#[]⟩,az ak,A I 0,O U 0 0] 57));have E:=eS m;have HN:=am (aa m);have h0:=h.keeps E h.lt;have kj:=am E;have nh:=am C;have pW:=vr h0;clear h C E h0;go_enter func37,ntmps37;go_wp2_with fail;rw[<-m];clear m;refine pW.mono ?_;rintro x w1 ⟨rfl,G,v1,K⟩;have N:=dq G HN (by omega);obtain⟨R,n⟩:∃R,R=w1.alloc (M #[A I t.1,A I (t.2.1:Int),H (ba t.2.2)] 81):=⟨_,rfl⟩;have o:=eS n;have fL:ah (wI w R rb e bl V ad (fun F=>(ag.gY e F).bind fun q r1=>(ag.aR e [59] r1).bind fun _ r2=>.ok (⟨(t.2.1:Int),q.name,t.2.2==ag.mN,q.type,q.eo⟩:ii) r2) F v1):=⟨mH (cU (dN _ kj) G) o,K.keeps o K.lt,nh.out,aK⟩;have zC:=am (ku o N);have jB:=am (aa n);have ql:=J N;clear G K o N pW;go_wp2_with fail;rw[<-n];clear n;refine(XQ fL.rd).mono ?_;intro x L i;rcases tS fL i with⟨S,r2,ae,v2,rfl,⟨a,d,f,g,d2,rfl,yN⟩,T,aM⟩|⟨W,c,q,X,rfl,r,v',bj⟩;rotate_left
 ·exact⟨rfl,W,.inr ⟨c,q,X,rfl,r,v',bj⟩⟩
 have iq:=dq T zC (by omega);have gL:=dq T jB (by omega);obtain⟨w3,p⟩:=nm (L.alloc (M #[H a,A I d,O f g d2] 60));have j:=eS p;have ez:=am (aM.later j);have Me:=am (ku j iq);have PU:=am (ku j gL);have F9:=am (aa p);have lP:=J gL;have bZ:=J jB;have Vb:ah (fW w3 (fun b=>w.heap.size+1<=b) S [H a,A I d,O f g d2]):=ic.mono (ic.keeps yN (aP.bm j)) fun b hb _=>(by omega);clear i T aM iq gL yN j;go_wp2_with fail;rw[<-p];clear p;refine(iI ⟨#[59]⟩ (by decide) ez.rd).mono ?_;intro x s i;rcases tS (P:=ag.aR e [59]) ez i with⟨a5,r5,ae,v5,rfl,rfl,l,gN⟩|⟨W,c,q,X,rfl,r,v',bj⟩;rotate_left
 ·exact⟨rfl,W,.inr ⟨c,q,X,rfl,r,v',bj⟩⟩
 have u:=dq l Me (by omega);have sV:=dq l PU (by omega);have Fh:=dq l F9 (by omega);have Gc:=am u;have af:ah (fW s (fun b=>w.heap.size+1<=b) S [H a,A I d,O f g d2]):=ic.keeps Vb (aP.bP l fun b hb=>by simp;omega);have y:ah _:=gN;obtain⟨e0,g0,g1,g2,g3,g4⟩:=abY u;obtain⟨⟨i0,i1,i2⟩,_⟩:=ox sV;obtain⟨⟨j0,j1,j2⟩,_⟩:=ox Fh;have l5:=J u;have l6:=J sV;have l7:=J Fh;have BB:((ba t.2.2).toList==[105,110])=(t.2.2==ag.mN):=(by rw[Lex.jU];rfl);obtain⟨bi,SI⟩:=nm (t.2.2==ag.mN);rw[<-SI] at BB;have Mz:=am SI;clear i l gN u sV Fh SI;go_wp2;obtain⟨Q,B⟩:=nm (((((s.setCell (Y w.heap.size 0 U) (A I (t.2.1:Int))).setCell (Y w.heap.size 1 U) (H a)).setCell (Y w.heap.size 2 U) (az bi)).setCell (Y w.heap.size 3 U) (A I d)).setCell (Y w.heap.size 4 U) (O f g d2));have dF:aq w.heap.size s Q:=(by rw[B];exact(((((aF _ _).setCell (by simp) _).setCell (by simp) _).setCell (by simp) _).setCell (by simp) _).setCell (by simp) _);have fk:∀k,k≠w.heap.size->Q.heap[k]? =s.heap[k]? :=fun k hk=>(by rw[B];iterate 5 rw[dL _ _ _ _ hk]);have jd:Q.heap[w.heap.size]? =Z (M #[A I (t.2.1:Int),H a,az bi,A I d,O f g d2] 57):=(by rw[B];simp[bw,dM,Gc.out]);rw[<-B];obtain⟨⟨k0,k1,k2,k3,k4⟩,_⟩:=abY jd;refine bodyPost_ret (v:=.agg #[A I (t.2.1:Int),H a,az bi,A I d,O f g d2]) (by simp[results,results37,go_sem,k0,k1,k2,k3,k4]) rfl ?_;have Kl:fW Q (fun b=>w.heap.size+1<=b) S [H a,A I d,O f g d2]:=ic.keeps af ⟨dF.size,fun b hb _=>fk b (by omega)⟩;obtain⟨lv,h1,h2,h3⟩:=Kl;simp only[List.cons.injEq,Value.int.injEq,Value.string.injEq,and_true,true_and] at h1;obtain⟨h5,h4,rfl⟩:=h1;refine⟨Lo y.gr dF,.inl ⟨_,_,y.eq,_,_,rfl,⟨_,_,_,_,_,_,_,rfl,_,?_,h2,h3.mono fun b hb _=>by omega⟩,y.rd.keeps dF y.lo⟩⟩;rw[h5,h4,Mz.out]
theorem fu {e:TypeId}(h:w.heap[b]? =Z (M #[x0,o,x2,x3,x4,x5,x6,x7,x8,x9,fS,fR,fQ,fP,fO] e)):(w.cell? (Y b 0 U)=Z x0/\w.cell? (Y b 1 U)=Z o/\w.cell? (Y b 2 U)=Z x2/\w.cell? (Y b 3 U)=Z x3/\w.cell? (Y b 4 U)=Z x4/\w.cell? (Y b 5 U)=Z x5/\w.cell? (Y b 6 U)=Z x6/\w.cell? (Y b 7 U)=Z x7/\w.cell? (Y b 8 U)=Z x8/\w.cell? (Y b 9 U)=Z x9/\w.cell? (Y b 10 U)=Z fS/\w.cell? (Y b 11 U)=Z fR/\w.cell? (Y b 12 U)=Z fQ/\w.cell? (Y b 13 U)=Z fP/\w.cell? (Y b 14 U)=Z fO)/\∀i,w.frozen? (Y b i U)=ak:=by
 refine⟨⟨?_,?_,?_,?_,?_,?_,?_,?_,?_,?_,?_,?_,?_,?_,?_⟩,fun i=> ?_⟩<;>simp[aN,World.frozen?,h]
structure jI {α:Type}(B:Nat)(w wr:au)(rb e:Nat)(bl pr:Int)(res:aA α)(K:List Tok->aA α)(ts:List Tok)(v:aw):Prop where
 fr:Fr B rb w wr
 rd:Rd wr rb e bl pr ts v
 eq:res=K ts
 lo:rb<B
theorem jI.later {a:Type}{b:aA a}{K:List Tok->aA a}(h:jI B w wr rb e bl V b K ts v)(c:aq B wr w'):jI B w w' rb e bl V b K ts v:=
 ⟨h.fr.trans (Fr.bm c),h.rd.keeps c h.lo,h.eq,h.lo⟩
theorem jQ {d k:Type}{f:aA k}{P:List Tok->aA d}{l:d->List Tok->aA k}{m:au->d->aw->Prop}(h:jI B w wr rb e bl V f (fun ts=>(P ts).bind l) ts v)(n:B<=wr.heap.size)(o:dS wr rb e bl V (P ts) m x w'):
 (∃a r u b,x=aE u/\m w' a u/\wr.grownBy w' (Z rb)/\jI B w w' rb e bl V f (l a) r b)\/(Fr B rb w w'/\∃c q,f=.no c q/\x=At c q/\∃r b,Rd w' rb e bl V r b):=by
 obtain⟨g,⟨a,r,i,u,b,hx,p,j⟩|⟨c,q,i,hx,r,b,j⟩⟩:=o
 ·exact .inl ⟨a,r,u,b,hx,p,g,h.fr.trans (Fr.bP g n),j,by rw[h.eq,i];rfl,h.lo⟩
 ·exact .inr ⟨h.fr.trans (Fr.bP g n),c,q,by rw[h.eq,i];rfl,hx,r,b,j⟩
def ag.JS (e:Nat)(E:List Tok->aA Tr)(ts:List Tok):aA (Bt×(Bool×List Po)×Tr):=(ag.bR e ts).bind fun s r1=>(ag.pS e r1).bind fun d r2=>(ag.aR e [61] r2).bind fun _ r3=>(E r3).bind fun x r4=>.ok (s,d,x) r4
def aqD (sb:Nat)(p:Int)(w':au)(a:Bt×(Bool×List Po)×Tr)(u:aw):Prop:=u=.tuple #[]/\∃(lo:Oa) (ln lc:Nat) (z0 z1 z2 z3:Int) (z4:Bt) (z5:Oa) (m5 d5:Nat) (z6:Oa) (m6 d6:Nat),w'.heap[sb]? =Z (M #[A I 1,A I p,H a.1,H ⟨#[]⟩,az a.2.1.1,O lo ln lc,A I z0,A I z1,A I z2,A I z3,H z4,O z5 m5 d5,O z6 m6 d6,O U 0 0,O U 0 0] 109)/\a.1.size<=maxLen/\dw w' (fun b=>sb<b) (O lo ln lc) a.2.1.2/\aS w' (fun b=>sb<b) a.2.2 [A I z0,A I z1,A I z2,A I z3,H z4,O z5 m5 d5,O z6 m6 d6]
theorem ajE (hE:rz rb e bl V E)(h:Rd w rb e bl V (t::F) v)(gF:w.heap[W]? =Z (M #[A I 0,A I p,H ⟨#[]⟩,H ⟨#[]⟩,az ak,O U 0 0,A I 0,A I 0,A I 0,A I 0,H ⟨#[]⟩,O U 0 0,O U 0 0,O U 0 0,O U 0 0] 109))(pE:rb<W):
 aC prog 179 #[aB (Z (Y rb 0 U)),aB (Z (Y W 0 U))] w (DB W w rb e bl V (ag.JS e E F) (aqD W p)):=by
 obtain⟨af,bU⟩:=nm (ag.JS e E F);rw[<-bU];have HE:=am hE;have nh:=am bU;have HS:=am gF;have pW:=vr h;have ao:=J gF;clear h bU gF hE;go_enter func179,ntmps179;go_wp2_with fail;refine pW.mono ?_;rintro x w1 ⟨rfl,mB,v1,Bm⟩;have fL:ah (jI _ _ _ _ _ _ _ _ _ _ _):=⟨Fr.bP mB (by omega),Bm,nh.out,pE⟩;have kd:=am (dq mB HS (by omega));have ql:=J kd;clear mB Bm pW;go_wp2_with fail;refine(uh fL.rd).mono ?_;intro x L d;rcases jQ fL (by omega) d with⟨s,g,ad,v2,rfl,⟨rfl,ct⟩,mA,aM⟩|⟨i,c,q,j,rfl,r,m,n⟩;rotate_left
 ·exact⟨rfl,i,.inr ⟨c,q,j,rfl,r,m,n⟩⟩
 have ec:=dq mA kd (by omega);have oC:ah (s.size<=maxLen):=ct;obtain⟨⟨a0,a1,a2,a3,a4,a5,a6,C,a8,a9,pU,pT,ae,oA,oZ⟩,a⟩:=fu ec;have cL:=a 0;have bA:=a 2;have l2:=J ec;obtain⟨w3,cQ⟩:=nm ((L.setCell (Y W 0 U) (A I 1)).setCell (Y W 2 U) (H s));have aT:aq W L w3:=(by rw[cQ];exact((aF _ _).setCell (by simp) _).setCell (by simp) _);have ez:=am (aM.later aT);have nI:ah (w3.heap[W]? =Z (M #[A I 1,A I p,H s,H ⟨#[]⟩,az ak,O U 0 0,A I 0,A I 0,A I 0,A I 0,H ⟨#[]⟩,O U 0 0,O U 0 0,O U 0 0,O U 0 0] 109)):=(by show _=_;rw[cQ];simp[bw,dM,ec]);have qZ:=J nI;have Mn:=ui ⟨#[123]⟩ ez.rd;clear d mA aM ec a ct aT;go_wp2_with fail;rw[<-cQ];clear cQ a0 a1 a2 a3 a4 a5 a6 C a8 a9 pU pT ae oA oZ cL bA;refine Mn.mono ?_;rintro x w4 ⟨rfl,iD⟩;have lH:=am (ez.later (iD.mono (by omega)));have B4:=am ((iD.block _ qZ).trans nI);have xw:W<w4.heap.size:=J B4;clear iD Mn;cases hi:aO (⟨#[123]⟩:Bt).data.toList g with
 | true=>
  have gQ:ah (jI W w w4 rb e bl V af (fun r1=>(ag.fX e r1).bind fun l g=>(ag.aR e [61] g).bind fun _ r3=>(E r3).bind fun x r4=>.ok (s,(ap,l),x) r4) g v2):=(by refine⟨lH.fr,lH.rd,?_,pE⟩;rw[lH.eq];have h9:ag.pS e g=(ag.fX e g).bind fun l r=>.ok (ap,l) r:=(by unfold ag.pS;exact if_pos hi);rw[h9];cases ag.fX e g<;>rfl);clear hi;go_wp2_with fail;refine(JX gQ.rd).mono ?_;intro x w5 d;rcases jQ gQ (by omega) d with⟨l,r5,ad,v5,rfl,⟨G,K,N,rfl,mE⟩,jM,gN⟩|⟨i,c,q,j,rfl,r,m,n⟩;rotate_left
  ·exact⟨rfl,i,.inr ⟨c,q,j,rfl,r,m,n⟩⟩
  have rL:=dq jM B4 (by omega);obtain⟨⟨a0,a1,a2,a3,a4,a5,a6,C,a8,a9,pU,pT,ae,oA,oZ⟩,a⟩:=fu rL;have vA:=a 4;have EX:=a 5;have l5:=J rL;obtain⟨f,u⟩:∃f,f=(w5.setCell (Y W 4 U) (az ap)).setCell (Y W 5 U) (O G K N):=⟨_,rfl⟩;have ra:aq W w5 f:=(by rw[u];exact((aF _ _).setCell (by simp) _).setCell (by simp) _);have Bz:∀k,k≠W->f.heap[k]? =w5.heap[k]? :=fun k hk=>(by rw[u,dL _ _ _ _ hk,dL _ _ _ _ hk]);have Ge:ah (dw f (fun b=>W<b) (O G K N) l):=(mE.mono (S':=fun b=>W<b) fun b o _=>by omega).keeps ⟨ra.size,fun b o _=>Bz b (by omega)⟩;have ru:ah _:=gN.later ra;have tZ:ah (f.heap[W]? =Z (M #[A I 1,A I p,H s,H ⟨#[]⟩,az ap,O G K N,A I 0,A I 0,A I 0,A I 0,H ⟨#[]⟩,O U 0 0,O U 0 0,O U 0 0,O U 0 0] 109)):=(by show _=_;rw[u];simp[bw,dM,rL]);have Bx:W<f.heap.size:=J tZ;clear d jM gN rL a ra Bz mE;go_wp2_with fail;rw[<-u];clear u a0 a1 a2 a3 a4 a5 a6 C a8 a9 pU pT ae oA oZ vA EX;refine(iI ⟨#[61]⟩ (by decide) ru.rd).mono ?_;intro x w7 d;rcases jQ (P:=ag.aR e [61]) ru (by omega) d with⟨C,r7,ad,v7,rfl,rfl,R,gG⟩|⟨i,c,q,j,rfl,r,m,n⟩;rotate_left
  ·exact⟨rfl,i,.inr ⟨c,q,j,rfl,r,m,n⟩⟩
  have ww:ah _:=gG;have AH:ah (_=Z (eV #[A I 1,A I p,H s,H ⟨#[]⟩,az ap,O G K N,A I 0,A I 0,A I 0,A I 0,H ⟨#[]⟩,O U 0 0,O U 0 0,O U 0 0,O U 0 0] _ _)):=dq R tZ (by omega);have Mk:ah (dw _ (fun b=>W<b) _ _):=Ge.keeps (aP.bP R fun b o=>by simp;omega);have vF:W<w7.heap.size:=J AH;clear d R gG;go_wp2_with fail;refine(HE.out _ _ _ ww.rd).mono ?_;intro x S d;rcases jQ ww (by omega) d with⟨ai,r8,ad,v8,rfl,⟨T,X,z2,z3,z4,z5,m5,d5,z6,m6,d6,rfl,hy⟩,Ak,uy⟩|⟨i,c,q,j,rfl,r,m,n⟩;rotate_left
  ·exact⟨rfl,i,.inr ⟨c,q,j,rfl,r,m,n⟩⟩
  have y:=dq Ak AH (by omega);have oa:ah (_=Z (eV #[A I 1,A I p,H s,H ⟨#[]⟩,az ap,O G K N,A I 0,A I 0,A I 0,A I 0,H ⟨#[]⟩,O U 0 0,O U 0 0,O U 0 0,O U 0 0] _ _)):=y;have uS:ah _:=uy;have Vs:ah (dw _ (fun b=>W<b) _ _):=Mk.keeps (aP.bP Ak fun b o=>by simp;omega);have Uz:ah (aS _ (fun b=>W<b) _ [A I T,A I X,A I z2,A I z3,H z4,O z5 m5 d5,O z6 m6 d6]):=aS.mono hy fun b o _=>(by omega);obtain⟨⟨a0,a1,a2,a3,a4,a5,a6,C,a8,a9,pU,pT,ae,oA,oZ⟩,a⟩:=fu y;have kF:=a 6;have CQ:=a 7;have my:=a 8;have EW:=a 9;have E0:=a 10;have EZ:=a 11;have EY:=a 12;have l8:=J y;clear d Ak uy y a hy;go_wp2;obtain⟨Q,z⟩:∃Q,Q=((((((S.setCell (Y W 6 U) (A I T)).setCell (Y W 7 U) (A I X)).setCell (Y W 8 U) (A I z2)).setCell (Y W 9 U) (A I z3)).setCell (Y W 10 U) (H z4)).setCell (Y W 11 U) (O z5 m5 d5)).setCell (Y W 12 U) (O z6 m6 d6):=⟨_,rfl⟩;have B:aq W S Q:=by
   rw[z];iterate 7 refine Below.setCell ?_ (by simp) _
   exact aF _ _
  have fk:∀k,k≠W->Q.heap[k]? =S.heap[k]? :=fun k hk=>(by rw[z];iterate 7 rw[dL _ _ _ _ hk]);have jd:Q.heap[W]? =Z (M #[A I 1,A I p,H s,H ⟨#[]⟩,az ap,O G K N,A I T,A I X,A I z2,A I z3,H z4,O z5 m5 d5,O z6 m6 d6,O U 0 0,O U 0 0] 109):=(by rw[z];simp[bw,dM,oa.out]);rw[<-z];refine bodyPost_ret (v:=.tuple #[]) (by simp[results,results179]) rfl ?_;exact⟨uS.fr.trans (Fr.bm B),.inl ⟨_,_,uS.eq,_,_,rfl,⟨rfl,G,K,N,_,_,_,_,_,_,_,_,_,_,_,jd,oC.out,Vs.keeps ⟨B.size,fun b o _=>fk b (by omega)⟩,Uz.keeps ⟨B.size,fun b o _=>fk b (by omega)⟩⟩,uS.rd.keeps B pE⟩⟩
 | false=>
  obtain⟨f,u⟩:∃f,f=w4:=⟨_,rfl⟩;have ru:ah (jI W w f rb e bl V af (fun g=>(ag.aR e [61] g).bind fun _ r3=>(E r3).bind fun x r4=>.ok (s,(ak,[]),x) r4) g v2):=(by rw[u];refine⟨lH.fr,lH.rd,?_,pE⟩;rw[lH.eq];have h9:ag.pS e g=.ok (ak,[]) g:=(by unfold ag.pS;exact if_neg (by rw[show([123]:Lu)=(⟨#[123]⟩:Bt).data.toList from rfl,hi];simp));rw[h9];rfl);have tZ:ah (f.heap[W]? =Z (M #[A I 1,A I p,H s,H ⟨#[]⟩,az ak,O U 0 0,A I 0,A I 0,A I 0,A I 0,H ⟨#[]⟩,O U 0 0,O U 0 0,O U 0 0,O U 0 0] 109)):=(by rw[u];exact B4.out);have Bx:W<f.heap.size:=J tZ;have Ge:ah (dw f (fun b=>W<b) (O U 0 0) []):=kE _ _;rw[<-u];clear hi u;go_wp2_with fail;refine(iI ⟨#[61]⟩ (by decide) ru.rd).mono ?_;intro x w7 d;rcases jQ (P:=ag.aR e [61]) ru (by omega) d with⟨C,r7,ad,v7,rfl,rfl,R,gG⟩|⟨i,c,q,j,rfl,r,m,n⟩;rotate_left
  ·exact⟨rfl,i,.inr ⟨c,q,j,rfl,r,m,n⟩⟩
  have ww:=am gG;have AH:=am (dq R tZ (by omega));have Mk:ah (dw _ (fun b=>W<b) _ []):=Ge.keeps (aP.bP R fun b o=>by simp;omega);have vF:W<w7.heap.size:=J AH;clear d R gG;go_wp2_with fail;refine(HE.out _ _ _ ww.rd).mono ?_;intro x S d;rcases jQ ww (by omega) d with⟨ai,r8,ad,v8,rfl,⟨T,X,z2,z3,z4,z5,m5,d5,z6,m6,d6,rfl,hy⟩,Ak,uy⟩|⟨i,c,q,j,rfl,r,m,n⟩;rotate_left
  ·exact⟨rfl,i,.inr ⟨c,q,j,rfl,r,m,n⟩⟩
  have y:=dq Ak AH (by omega);have oa:ah (_=Z (eV #[A I 1,A I p,H s,H ⟨#[]⟩,az ak,O U 0 0,A I 0,A I 0,A I 0,A I 0,H ⟨#[]⟩,O U 0 0,O U 0 0,O U 0 0,O U 0 0] _ _)):=y;have uS:ah _:=uy;have Vs:ah (dw _ (fun b=>W<b) _ []):=Mk.keeps (aP.bP Ak fun b o=>by simp;omega);have Uz:ah (aS _ (fun b=>W<b) _ [A I T,A I X,A I z2,A I z3,H z4,O z5 m5 d5,O z6 m6 d6]):=aS.mono hy fun b o _=>(by omega);obtain⟨⟨a0,a1,a2,a3,a4,a5,a6,C,a8,a9,pU,pT,ae,oA,oZ⟩,a⟩:=fu y;have kF:=a 6;have CQ:=a 7;have my:=a 8;have EW:=a 9;have E0:=a 10;have EZ:=a 11;have EY:=a 12;have l8:=J y;clear d Ak uy y a hy;go_wp2;obtain⟨Q,z⟩:∃Q,Q=((((((S.setCell (Y W 6 U) (A I T)).setCell (Y W 7 U) (A I X)).setCell (Y W 8 U) (A I z2)).setCell (Y W 9 U) (A I z3)).setCell (Y W 10 U) (H z4)).setCell (Y W 11 U) (O z5 m5 d5)).setCell (Y W 12 U) (O z6 m6 d6):=⟨_,rfl⟩;have B:aq W S Q:=by
   rw[z];iterate 7 refine Below.setCell ?_ (by simp) _
   exact aF _ _
  have fk:∀k,k≠W->Q.heap[k]? =S.heap[k]? :=fun k hk=>(by rw[z];iterate 7 rw[dL _ _ _ _ hk]);have jd:Q.heap[W]? =Z (M #[A I 1,A I p,H s,H ⟨#[]⟩,az ak,O U 0 0,A I T,A I X,A I z2,A I z3,H z4,O z5 m5 d5,O z6 m6 d6,O U 0 0,O U 0 0] 109):=(by rw[z];simp[bw,dM,oa.out]);rw[<-z];refine bodyPost_ret (v:=.tuple #[]) (by simp[results,results179]) rfl ?_;exact⟨uS.fr.trans (Fr.bm B),.inl ⟨_,_,uS.eq,_,_,rfl,⟨rfl,U,0,0,_,_,_,_,_,_,_,_,_,_,_,jd,oC.out,Vs.keeps ⟨B.size,fun b o _=>fk b (by omega)⟩,Uz.keeps ⟨B.size,fun b o _=>fk b (by omega)⟩⟩,uS.rd.keeps B pE⟩⟩
def VBk (B:Nat)(w':au)(l:List aV)(u:aw):Prop:=∃(ao:Oa) (n c:Nat),u=O ao n c/\bH bK w' (fun b=>B<=b) 15 u l
def zT (rb e:Nat)(bl pr:Int)(B:List Tok->aA (List aV)):Prop:=∀(w:au) (ts:List Tok) (v:aw),Rd w rb e bl pr ts v->aC prog 82 #[aB (Z (Y rb 0 U))] w (dS w rb e bl pr (B ts) (VBk w.heap.size))
def ag.EJ (E:List Tok->aA Tr)(B:List Tok->aA (List aV))(b:Bool)(ts:List Tok):aA (Tr×List aV×List aV):=(E ts).bind fun x r1=>(B r1).bind fun a r2=>if(b && aO ag.Cx r2)=ap then(B r2.tail).bind fun y r3=>.ok (x,a,y) r3 else .ok (x,a,[]) r2
def aqC (sb:Nat)(p k:Int)(w':au)(q:Tr×List aV×List aV)(u:aw):Prop:=u=.tuple #[]/\∃(z0 z1 z2 z3:Int) (z4:Bt) (z5:Oa) (m5 d5:Nat) (z6:Oa) (m6 d6:Nat) (ao:Oa) (an ac:Nat) (bo:Oa) (bn bc:Nat),w'.heap[sb]? =Z (M #[A I k,A I p,H ⟨#[]⟩,H ⟨#[]⟩,az ak,O U 0 0,A I z0,A I z1,A I z2,A I z3,H z4,O z5 m5 d5,O z6 m6 d6,O ao an ac,O bo bn bc] 109)/\aS w' (fun b=>sb<b) q.1 [A I z0,A I z1,A I z2,A I z3,H z4,O z5 m5 d5,O z6 m6 d6]/\bH bK w' (fun b=>sb<b) 15 (O ao an ac) q.2.1/\bH bK w' (fun b=>sb<b) 15 (O bo bn bc) q.2.2
theorem sF (h:bH bK w S 15 v l)(k:aP S w w'):bH bK w' S 15 v l:=h.keeps (fun h=>h.keeps k) k
theorem yq {S':Np}(h:bH bK w S 15 v l)(k:∀b,S b->b<w.heap.size->S' b):bH bK w S' 15 v l:=h.mono (fun h=>h.mono k) k
theorem Yj {Bk:List Tok->aA (List aV)}(hE:rz rb e bl V E)(mY:zT rb e bl V Bk)(h:Rd w rb e bl V (t::F) v)(gF:w.heap[W]? =Z (M #[A I 0,A I p,H ⟨#[]⟩,H ⟨#[]⟩,az ak,O U 0 0,A I 0,A I 0,A I 0,A I 0,H ⟨#[]⟩,O U 0 0,O U 0 0,O U 0 0,O U 0 0] 109))(pE:rb<W)(kb:Bool)(mU:(t.2.2==ag.AX)=kb)(kk:Int)(ot:kk=if kb=ap then 3 else 4):
 aC prog 178 #[aB (Z (Y rb 0 U)),aB (Z (Y W 0 U))] w (DB W w rb e bl V (ag.EJ E Bk kb F) (aqC W p kk)):=by
 have AP:=am ot;clear ot;obtain⟨ad,bU⟩:=nm (ag.EJ E Bk kb F);rw[<-bU];have f2:=BR;have HE:=am hE;have HK:=am mY;have nh:=am bU;have aG:=J gF;obtain⟨a0,a⟩:=fu gF;have cL:=a 0;obtain⟨wa,jc⟩:=nm (w.setCell (Y W 0 U) (A I 4));have bD:aq W w wa:=(by rw[jc];exact(aF _ _).setCell (by simp) _);have ai:ah (wa.heap[W]? =Z (M #[A I 4,A I p,H ⟨#[]⟩,H ⟨#[]⟩,az ak,O U 0 0,A I 0,A I 0,A I 0,A I 0,H ⟨#[]⟩,O U 0 0,O U 0 0,O U 0 0,O U 0 0] 109)):=(by show _=_;rw[jc];simp[bw,dM,gF]);have pW:=vr (h.keeps bD pE);have Gl:=am bD;have aI:((ba t.2.2).toList==[105,102])=kb:=(by rw[Lex.jU];exact mU);clear h bU gF hE mY a bD mU;go_enter func178,ntmps178;go_wp2_with fail;rw[<-jc];clear jc a0 cL;refine pW.mono ?_;rintro x w1 ⟨rfl,mB,v1,Bm⟩;have Bh:=J ai;have aZ:jI _ _ _ _ _ _ _ _ _ _ _:=⟨(Fr.bm Gl).trans (Fr.bP mB (by omega)),Bm,nh.out,pE⟩;have S:=dq mB ai (by omega);have kd:=am S;have fL:=am aZ;have ql:=J S;clear mB Bm pW aZ;cases kb with
 | true=>
  obtain rfl:kk=3:=AP.out;obtain⟨a0,a⟩:=fu S;have cL:=a 0;obtain⟨L,y⟩:=nm (w1.setCell (Y W 0 U) (A I 3));have aH:aq W w1 L:=(by rw[y];exact(aF _ _).setCell (by simp) _);have fK:ah (L.heap[W]? =Z (M #[A I 3,A I p,H ⟨#[]⟩,H ⟨#[]⟩,az ak,O U 0 0,A I 0,A I 0,A I 0,A I 0,H ⟨#[]⟩,O U 0 0,O U 0 0,O U 0 0,O U 0 0] 109)):=(by show _=_;rw[y];simp[bw,dM,S]);have dX:=am (fL.later aH);have lP:W<L.heap.size:=J fK;clear S a aH;go_wp2_with fail;rw[<-y];clear y a0 cL;refine(HE.out _ _ _ dX.rd).mono ?_;intro x w3 d;rcases jQ dX (by omega) d with⟨ae,r3,af,v3,rfl,⟨f,g,i,j,l,m,n,d5,o,s,d6,rfl,hy⟩,jD,bY⟩|⟨z,c,q,B,rfl,r,C,G⟩;rotate_left
  ·exact⟨rfl,z,.inr ⟨c,q,B,rfl,r,C,G⟩⟩
  have ez:ah _:=bY;have nI:ah (_=Z (eV #[A I 3,A I p,H ⟨#[]⟩,H ⟨#[]⟩,az ak,O U 0 0,A I 0,A I 0,A I 0,A I 0,H ⟨#[]⟩,O U 0 0,O U 0 0,O U 0 0,O U 0 0] _ _)):=dq jD fK (by omega);have UB:ah (aS _ (fun b=>W<b) _ [A I f,A I g,A I i,A I j,H l,O m n d5,O o s d6]):=aS.mono hy fun b u _=>(by omega);have qZ:W<w3.heap.size:=J nI;clear d jD bY hy;go_wp2_with fail;refine(HK.out _ _ _ ez.rd).mono ?_;intro x w4 d;rcases jQ ez (by omega) d with⟨sa,r4,af,v4,rfl,⟨ao,an,ac,rfl,P⟩,T,dg⟩|⟨z,c,q,B,rfl,r,C,G⟩;rotate_left
  ·exact⟨rfl,z,.inr ⟨c,q,B,rfl,r,C,G⟩⟩
  have K:=dq T nI (by omega);have Bf:aS _ (fun b=>W<b) _ [A I f,A I g,A I i,A I j,H l,O m n d5,O o s d6]:=UB.keeps (aP.bP T fun b u=>by simp;omega);have BI:bH _ _ (fun b=>W<b) _ _ _:=yq P fun b u _=>(by omega);obtain⟨a0,a⟩:=fu K;have kF:=a 6;have CQ:=a 7;have my:=a 8;have EW:=a 9;have E0:=a 10;have EZ:=a 11;have EY:=a 12;have J7:=a 13;have l4:=J K;obtain⟨w5,N⟩:=nm ((((((((w4.setCell (Y W 6 U) (A I f)).setCell (Y W 7 U) (A I g)).setCell (Y W 8 U) (A I i)).setCell (Y W 9 U) (A I j)).setCell (Y W 10 U) (H l)).setCell (Y W 11 U) (O m n d5)).setCell (Y W 12 U) (O o s d6)).setCell (Y W 13 U) (O ao an ac));have X:aq W w4 w5:=by
   rw[N];iterate 8 refine Below.setCell ?_ (by simp) _
   exact aF _ _
  have sV:aP (fun b=>W<b) _ _:=⟨X.size,fun b u _=>by rw[N];iterate 8 rw[dL _ _ _ _ (by show b≠W;omega)]⟩;have qF:ah (w5.heap[W]? =Z (M #[A I 3,A I p,H ⟨#[]⟩,H ⟨#[]⟩,az ak,O U 0 0,A I f,A I g,A I i,A I j,H l,O m n d5,O o s d6,O ao an ac,O U 0 0] 109)):=(by show _=_;rw[N];simp[bw,dM,K]);have R:=am (dg.later X);have UA:ah (aS _ (fun b=>W<b) _ [A I f,A I g,A I i,A I j,H l,O m n d5,O o s d6]):=Bf.keeps sV;have V9:ah (bH _ _ (fun b=>W<b) _ _ _):=sF BI sV;have Ao:=J qF;obtain⟨⟨i0,_⟩,_⟩:=fu qF;clear d T dg K a P Bf BI X sV;go_wp2_with fail;rw[<-N];refine(EA ⟨#[101,108,115,101]⟩ (by decide) R.rd).mono ?_;rintro x w6 ⟨rfl,ol,v6,xt⟩;have Fd:=dq ol qF (by omega);have tZ:=am Fd;have ar:=am (UA.keeps (aP.bP ol fun b u=>by simp;omega));have av:=am (sF V9 (aP.bP ol fun b u=>by simp;omega));have Ch:=am (R.fr.trans (Fr.bP ol (by omega)));have Bx:=J Fd;clear ol;cases hi:aO (⟨#[101,108,115,101]⟩:Bt).data.toList r4 with
  | true=>
   rw[hi] at xt;have ru:ah (jI W w w6 rb e bl V ad (fun r=>(Bk r).bind fun b r3=>.ok (ae,sa,b) r3) r4.tail v6):=by
    refine⟨Ch.out,xt,?_,pE⟩;rw[R.eq];exact if_pos (by rw[Bool.true_and];exact hi)
   clear hi xt Fd;go_wp2_with fail;refine(HK.out _ _ _ ru.rd).mono ?_;intro x w7 d;rcases jQ ru (by omega) d with⟨sy,r7,af,v7,rfl,⟨bo,bn,bc,rfl,P⟩,jW,gG⟩|⟨z,c,q,B,rfl,r,C,G⟩;rotate_left
   ·exact⟨rfl,z,.inr ⟨c,q,B,rfl,r,C,G⟩⟩
   have kG:=dq jW tZ (by omega);have AH:=am kG;have ww:ah _:=gG;have ax:ah (aS _ (fun b=>W<b) _ [A I f,A I g,A I i,A I j,H l,O m n d5,O o s d6]):=ar.keeps (aP.bP jW fun b u=>by simp;omega);have ay:ah (bH _ _ (fun b=>W<b) _ _ _):=sF av (aP.bP jW fun b u=>by simp;omega);have V6:ah (bH _ _ (fun b=>W<b) _ _ _):=yq P fun b u _=>(by omega);obtain⟨a0,a⟩:=fu kG;have Zt:=a 14;have l7:=J kG;clear d jW gG kG a P;go_wp2;obtain⟨Q,bp⟩:=nm (w7.setCell (Y W 14 U) (O bo bn bc));have dF:aq W w7 Q:=(by rw[bp];exact(aF _ _).setCell (by simp) _);have fk:∀k,k≠W->Q.heap[k]? =w7.heap[k]? :=fun k hk=>(by rw[bp,dL _ _ _ _ hk]);have jd:Q.heap[W]? =Z (M #[A I 3,A I p,H ⟨#[]⟩,H ⟨#[]⟩,az ak,O U 0 0,A I f,A I g,A I i,A I j,H l,O m n d5,O o s d6,O ao an ac,O bo bn bc] 109):=(by rw[bp];simp[bw,dM,AH.out]);rw[<-bp];refine bodyPost_ret (v:=.tuple #[]) (by simp[results,results178]) rfl ?_;have ot:aP (fun b=>W<b) _ _:=⟨dF.size,fun b u _=>fk b (by omega)⟩;exact⟨ww.fr.trans (Fr.bm dF),.inl ⟨_,_,ww.eq,_,_,rfl,⟨rfl,_,_,_,_,_,_,_,_,_,_,_,_,_,_,_,_,_,jd,ax.keeps ot,sF ay ot,sF V6 ot⟩,ww.rd.keeps dF pE⟩⟩
  | false=>
   rw[hi] at xt;have fM:ah (ad=.ok (ae,sa,[]) r4):=by
    show _=_;rw[R.eq];exact if_neg (by rw[Bool.true_and,show ag.Cx=(⟨#[101,108,115,101]⟩:Bt).data.toList from rfl,hi];simp)
   have si:=am xt;clear hi xt Fd;go_wp2;refine bodyPost_ret (v:=.tuple #[]) (by simp[results,results178]) rfl ?_;exact⟨Ch.out,.inl ⟨_,_,fM.out,_,_,rfl,⟨rfl,_,_,_,_,_,_,_,_,_,_,_,_,_,_,_,_,_,tZ.out,ar.out,av.out,bH.none _ _ _ _⟩,si.out⟩⟩
 | false=>
  obtain rfl:kk=4:=AP.out;obtain⟨L,y⟩:=nm w1;have fK:ah (L.heap[W]? =Z (M #[A I 4,A I p,H ⟨#[]⟩,H ⟨#[]⟩,az ak,O U 0 0,A I 0,A I 0,A I 0,A I 0,H ⟨#[]⟩,O U 0 0,O U 0 0,O U 0 0,O U 0 0] 109)):=(by rw[y];exact S);have dX:ah (jI W w L rb e bl V ad (ag.EJ E Bk ak) F v1):=(by rw[y];exact fL.out);have lP:W<L.heap.size:=J fK;rw[<-y];clear S y;go_wp2_with fail;refine(HE.out _ _ _ dX.rd).mono ?_;intro x w3 d;rcases jQ dX (by omega) d with⟨ae,r3,af,v3,rfl,⟨f,g,i,j,l,m,n,d5,o,s,d6,rfl,hy⟩,jD,bY⟩|⟨z,c,q,B,rfl,r,C,G⟩;rotate_left
  ·exact⟨rfl,z,.inr ⟨c,q,B,rfl,r,C,G⟩⟩
  have ez:ah _:=bY;have nI:ah (_=Z (eV #[A I 4,A I p,H ⟨#[]⟩,H ⟨#[]⟩,az ak,O U 0 0,A I 0,A I 0,A I 0,A I 0,H ⟨#[]⟩,O U 0 0,O U 0 0,O U 0 0,O U 0 0] _ _)):=dq jD fK (by omega);have UB:ah (aS _ (fun b=>W<b) _ [A I f,A I g,A I i,A I j,H l,O m n d5,O o s d6]):=aS.mono hy fun b u _=>(by omega);have qZ:W<w3.heap.size:=J nI;clear d jD bY hy;go_wp2_with fail;refine(HK.out _ _ _ ez.rd).mono ?_;intro x w4 d;rcases jQ ez (by omega) d with⟨sa,r4,af,v4,rfl,⟨ao,an,ac,rfl,P⟩,T,dg⟩|⟨z,c,q,B,rfl,r,C,G⟩;rotate_left
  ·exact⟨rfl,z,.inr ⟨c,q,B,rfl,r,C,G⟩⟩
  have K:=dq T nI (by omega);have Bf:aS _ (fun b=>W<b) _ [A I f,A I g,A I i,A I j,H l,O m n d5,O o s d6]:=UB.keeps (aP.bP T fun b u=>by simp;omega);have BI:bH _ _ (fun b=>W<b) _ _ _:=yq P fun b u _=>(by omega);obtain⟨a0,a⟩:=fu K;have kF:=a 6;have CQ:=a 7;have my:=a 8;have EW:=a 9;have E0:=a 10;have EZ:=a 11;have EY:=a 12;have J7:=a 13;have l4:=J K;obtain⟨w5,N⟩:=nm ((((((((w4.setCell (Y W 6 U) (A I f)).setCell (Y W 7 U) (A I g)).setCell (Y W 8 U) (A I i)).setCell (Y W 9 U) (A I j)).setCell (Y W 10 U) (H l)).setCell (Y W 11 U) (O m n d5)).setCell (Y W 12 U) (O o s d6)).setCell (Y W 13 U) (O ao an ac));have X:aq W w4 w5:=by
   rw[N];iterate 8 refine Below.setCell ?_ (by simp) _
   exact aF _ _
  have sV:aP (fun b=>W<b) _ _:=⟨X.size,fun b u _=>by rw[N];iterate 8 rw[dL _ _ _ _ (by show b≠W;omega)]⟩;have qF:ah (w5.heap[W]? =Z (M #[A I 4,A I p,H ⟨#[]⟩,H ⟨#[]⟩,az ak,O U 0 0,A I f,A I g,A I i,A I j,H l,O m n d5,O o s d6,O ao an ac,O U 0 0] 109)):=(by show _=_;rw[N];simp[bw,dM,K]);have R:=am (dg.later X);have UA:ah (aS _ (fun b=>W<b) _ [A I f,A I g,A I i,A I j,H l,O m n d5,O o s d6]):=Bf.keeps sV;have V9:ah (bH _ _ (fun b=>W<b) _ _ _):=sF BI sV;have Ao:=J qF;obtain⟨⟨i0,_⟩,_⟩:=fu qF;clear d T dg K a P Bf BI X sV;go_wp2;rw[<-N];have fM:ah (ad=.ok (ae,sa,[]) r4):=(by show _=_;rw[R.eq];rfl);refine bodyPost_ret (v:=.tuple #[]) (by simp[results,results178]) rfl ?_;exact⟨R.fr,.inl ⟨_,_,fM.out,_,_,rfl,⟨rfl,_,_,_,_,_,_,_,_,_,_,_,_,_,_,_,_,_,qF.out,UA.out,V9.out,bH.none _ _ _ _⟩,R.rd⟩⟩
theorem WL (w:au)(S:Np):aS w S ag.qR [A I 0,A I 0,A I 0,A I 0,H ⟨#[]⟩,O U 0 0,O U 0 0]:=.mk (css:=[]) (by decide) (kE _ _) (gj.none _ _ _ _) rfl (fun i a=>by simp at a)
theorem ag.ajD (e:Nat)(ts:List Tok):ag.JR e ts=(ag.JS e (ag.fp e 12) ts.tail).bind fun a r=>ag.mP e (.mk 1 (nx ts).2.1 a.1 (ba []) a.2.1.1 a.2.1.2 a.2.2 [] []) r:=by
 unfold ag.JR ag.JS;cases ag.bR e ts.tail with
 | no c q=>rfl
 | ok s b=>
  show(ag.pS e b).bind _=((ag.pS e b).bind _).bind _;cases ag.pS e b with
  | no c q=>rfl
  | ok g d=>
   show(ag.aR e [61] d).bind _=((ag.aR e [61] d).bind _).bind _;cases ag.aR e [61] d with
   | no c q=>rfl
   | ok a f=>
    show(ag.fp e 12 f).bind _=((ag.fp e 12 f).bind _).bind _;cases ag.fp e 12 f<;>rfl
theorem CB {wz:au}{j:aA aV}{S:aV}{r:List Tok}{k:Av}{x0 o:Int}{x2 x3:Bt}{x4:Bool}{x5:Oa}{c d5:Nat}{x6 x7 x8 x9:Int}{fS:Bt}{fR:Oa}{d d11:Nat}{fQ:Oa}{f d12:Nat}{fP:Oa}{g d13:Nat}{fO:Oa}{h d14:Nat}(a:jI w.heap.size w wz rb e bl V j (fun r=>.ok S r) r v)(hn:Q.heap[w.heap.size]? =Z (M #[A I x0,A I o,H x2,H x3,az x4,O x5 c d5,A I x6,A I x7,A I x8,A I x9,H fS,O fR d d11,O fQ f d12,O fP g d13,O fO h d14] 109))
 (l:bK wz (fun b=>W<b) S [A I x0,A I o,H x2,H x3,az x4,O x5 c d5,A I x6,A I x7,A I x8,A I x9,H fS,O fR d d11,O fQ f d12,O fP g d13,O fO h d14]) (m:aP (fun b=>W<b) wz Q) (i:aq w.heap.size wz Q) (u:w.heap.size<=W) (n:k[2]? =Z (aB (Z (Y w.heap.size 0 U)))):
 bodyPost prog f130 (dS w rb e bl V j (VT w.heap.size)) .ret {tmps:=k,defers:=[]} Q:=by
 obtain⟨⟨d0,d1,d2,d3,d4,BT,d6,d7,d8,d9,d10,p,q,s,t⟩,_⟩:=fu hn;refine bodyPost_ret (v:=.agg #[A I x0,A I o,H x2,H x3,az x4,O x5 c d5,A I x6,A I x7,A I x8,A I x9,H fS,O fR d d11,O fQ f d12,O fP g d13,O fO h d14]) (by simp[results,results130,go_sem,n,d0,d1,d2,d3,d4,BT,d6,d7,d8,d9,d10,p,q,s,t]) rfl ?_;exact⟨(a.fr.trans (Fr.bm i)).grown,.inl ⟨S,r,a.eq,_,v,rfl,⟨_,_,_,_,_,_,_,_,_,_,_,_,_,_,_,_,_,_,_,_,_,_,_,_,_,rfl,(l.keeps m).mono fun b i _=>by omega⟩,a.rd.keeps i a.lo⟩⟩
theorem QF {Bk:List Tok->aA (List aV)}(BB:(nx ts).2.2=ag.AX\/(nx ts).2.2=ag.Cs\/(nx ts).2.2=ag.Ct)(hE:rz rb e bl V (ag.fp e 12))(mY:zT rb e bl V Bk)(h:Rd w rb e bl V ts v):
 aC prog 130 #[aB (Z (Y rb 0 U))] w (dS w rb e bl V (ag.fd e Bk ts) (VT w.heap.size)):=by
 obtain⟨ad,bU⟩:=nm (ag.fd e Bk ts);rw[<-bU];have nh:=am bU;have f2:=BR;have HE:ah (rz rb e bl V (ag.fp e 12)):=hE;have HK:ah (zT rb e bl V Bk):=mY;have aK:=h.lt;obtain⟨z,aI⟩:∃z,z=w.alloc (M #[A I 0,A I 0,H ⟨#[]⟩,H ⟨#[]⟩,az ak,O U 0 0,A I 0,A I 0,A I 0,A I 0,H ⟨#[]⟩,O U 0 0,O U 0 0,O U 0 0,O U 0 0] 109):=⟨_,rfl⟩;have bG:Bl w z:=(by rw[aI];exact(aF _ _).alloc (aD _) _);have fE:z.heap.size=w.heap.size+1:=(by rw[aI];simp);have fj:z.heap[w.heap.size]? =Z (M #[A I 0,A I 0,H ⟨#[]⟩,H ⟨#[]⟩,az ak,O U 0 0,A I 0,A I 0,A I 0,A I 0,H ⟨#[]⟩,O U 0 0,O U 0 0,O U 0 0,O U 0 0] 109):=(by rw[aI];exact cu _ _ _ rfl);have ur:Rd z rb e bl V ts v:=h.keeps bG h.lt;have uW:=EB ur;obtain⟨p,rM⟩:∃p:Int,p=(bI e ts:Nat):=⟨_,rfl⟩;rw[<-rM] at uW;have oD:ah (p=(bI e ts:Nat)):=rM;obtain⟨W,gF⟩:∃W,W=w.heap.size+1:=⟨_,rfl⟩;obtain⟨wb,f8⟩:∃wb,wb=z.alloc (M #[A I 0,A I p,H ⟨#[]⟩,H ⟨#[]⟩,az ak,O U 0 0,A I 0,A I 0,A I 0,A I 0,H ⟨#[]⟩,O U 0 0,O U 0 0,O U 0 0,O U 0 0] 109):=⟨_,rfl⟩;have iw:Bl z wb:=(by rw[f8];exact(aF _ _).alloc (aD _) _);have sT:wb.heap[w.heap.size]? =Z (M #[A I 0,A I 0,H ⟨#[]⟩,H ⟨#[]⟩,az ak,O U 0 0,A I 0,A I 0,A I 0,A I 0,H ⟨#[]⟩,O U 0 0,O U 0 0,O U 0 0,O U 0 0] 109):=(iw.block _ (by omega)).trans fj;have CW:wb.heap[W]? =Z (M #[A I 0,A I p,H ⟨#[]⟩,H ⟨#[]⟩,az ak,O U 0 0,A I 0,A I 0,A I 0,A I 0,H ⟨#[]⟩,O U 0 0,O U 0 0,O U 0 0,O U 0 0] 109):=(by rw[gF,<-fE,f8];exact cu _ _ _ rfl);have yK:Rd wb rb e bl V ts v:=ur.keeps iw ur.lt;have iy:=yr yK;have zF:ah (Fr w.heap.size rb w wb):=(Fr.bm bG).trans (Fr.bm (iw.mono (by omega)));have DJ:=am yK;have uQ:=am (aj sT CW);obtain⟨k,ga⟩:=nm ((nx ts).2.2);rw[<-ga] at iy BB;have I1:=am BB;clear BB;have j:=am ga;clear h bU hE mY bG fj ur rM iw sT CW yK ga;go_enter func130,ntmps130;go_wp2_with fail;rw[<-aI];clear aI;refine uW.mono ?_;rintro x Qu ⟨rfl,E7⟩;subst E7
 go_wp2_with fail;rw[<-f8,<-gF];have nQ:w.heap.size<W:=(by omega);clear f8 gF;refine iy.mono ?_;rintro x L ⟨rfl,aH⟩;have ef:=J uQ.2;have ld:ah (_=Z (eV #[A I 0,A I 0,H ⟨#[]⟩,H ⟨#[]⟩,az ak,O U 0 0,A I 0,A I 0,A I 0,A I 0,H ⟨#[]⟩,O U 0 0,O U 0 0,O U 0 0,O U 0 0] _ _)):=(aH.block _ (J uQ.1)).trans uQ.1;have fK:ah (_=Z (eV #[A I 0,A I p,H ⟨#[]⟩,H ⟨#[]⟩,az ak,O U 0 0,A I 0,A I 0,A I 0,A I 0,H ⟨#[]⟩,O U 0 0,O U 0 0,O U 0 0,O U 0 0] _ _)):=(aH.block _ ef).trans uQ.2;have gR:ah (Fr w.heap.size rb w L):=zF.trans (Fr.bm (aH.mono (by omega)));have eF:ah (Rd _ _ _ _ _ _ _):=DJ.keeps aH DJ.lt;have lP:W<L.heap.size:=J fK;clear aH uW iy ef;by_cases K:k=ag.AX
 ·have q0:((ba k).toList==[105,102])=ap:=(by rw[fB,K];decide);obtain⟨t,F,rfl⟩:∃t F,ts=t::F:=by
   cases ts with
   | nil=>have R:=j.out;rw[K] at R;cases R
   | cons t F=>exact⟨t,F,rfl⟩
  have qW:t.2.2=k:=j.symm;have S:ah (ad=(ag.EJ (ag.fp e 12) Bk ap F).bind fun q r=>.ok (.mk 3 p (ba []) (ba []) ak [] q.1 q.2.1 q.2.2) r):=by
   show _=_;rw[nh.out];unfold ag.fd;rw[if_pos (by rw[<-j.out];exact K)];rw[oD.out];unfold ag.NI ag.EJ;show(ag.fp e 12 F).bind _=((ag.fp e 12 F).bind _).bind _;cases ag.fp e 12 F with
   | no c q=>rfl
   | ok x r1=>
    show(Bk r1).bind _=((Bk r1).bind _).bind _;cases Bk r1 with
    | no c q=>rfl
    | ok ae r2=>
     cases hw:aO ag.Cx r2 with
     | false=>simp[aA.bind,ag.aA.bind,hw];rfl
     | true=>
      simp only[ag.aA.bind,hw,Bool.and_self,if_true];cases Bk r2.tail<;>rfl
  have T:=Yj (p:=p) HE HK eF fK (by omega) ap (by rw[qW,K];decide) 3 rfl;clear qW K;go_wp2_with fail;refine T.mono ?_;rintro x f ⟨g,⟨d,r3,X,af,v3,rfl,⟨rfl,l,m,n,s,u,y,B,d5,C,E,d6,ao,an,ac,bo,bn,bc,G,jt,KY,aT⟩,pC⟩|⟨c,q,hr,rfl,r,v',bj⟩⟩;rotate_left
  ·refine⟨rfl,(gR.trans (g.mono (by omega))).grown,.inr ⟨c,q,?_,rfl,r,v',bj⟩⟩;rw[S.out,hr];rfl
  have oF:ah (jI w.heap.size w f rb e bl V ad (fun r=>.ok (.mk 3 p (ba []) (ba []) ak [] d.1 d.2.1 d.2.2) r) r3 v3):=⟨gR.trans (g.mono (by omega)),pC,(by rw[S.out,X];rfl),aK⟩;have N:f.heap[w.heap.size]? =Z (M #[A I 0,A I 0,H ⟨#[]⟩,H ⟨#[]⟩,az ak,O U 0 0,A I 0,A I 0,A I 0,A I 0,H ⟨#[]⟩,O U 0 0,O U 0 0,O U 0 0,O U 0 0] 109):=(g.block _ (by omega) (by omega)).trans ld;have t7:ah (f.heap[w.heap.size]? =Z (M #[A I 0,A I 0,H ⟨#[]⟩,H ⟨#[]⟩,az ak,O U 0 0,A I 0,A I 0,A I 0,A I 0,H ⟨#[]⟩,O U 0 0,O U 0 0,O U 0 0,O U 0 0] 109)):=N;have eE:ah (bK f (fun b=>W<b) (.mk 3 p (ba []) (ba []) ak [] d.1 d.2.1 d.2.2) [A I 3,A I p,H ⟨#[]⟩,H ⟨#[]⟩,az ak,O U 0 0,A I l,A I m,A I n,A I s,H u,O y B d5,O C E d6,O ao an ac,O bo bn bc]):=bK.of (by decide) (by decide) (kE _ _) jt KY aT;obtain⟨b0,a⟩:=fu N;obtain⟨⟨x0,o,x2,x3,x4,x5,x6,x7,x8,x9,fS,fR,fQ,fP,fO⟩,_⟩:=fu G;have y0:=a 0;have y1:=a 1;have y2:=a 2;have y3:=a 3;have y4:=a 4;have y5:=a 5;have y6:=a 6;have y7:=a 7;have y8:=a 8;have y9:=a 9;have Ek:=a 10;have Ej:=a 11;have Ei:=a 12;have Eh:=a 13;have Eg:=a 14;have l9:=J N;have l8:=J G;clear g X G jt KY aT pC N a T;go_wp2;obtain⟨Q,i⟩:∃Q,Q=(((((((((((((((f).setCell (Y w.heap.size 0 U) (A I 3)).setCell (Y w.heap.size 1 U) (A I p)).setCell (Y w.heap.size 2 U) (H ⟨#[]⟩)).setCell (Y w.heap.size 3 U) (H ⟨#[]⟩)).setCell (Y w.heap.size 4 U) (az ak)).setCell (Y w.heap.size 5 U) (O U 0 0)).setCell (Y w.heap.size 6 U) (A I l)).setCell (Y w.heap.size 7 U) (A I m)).setCell (Y w.heap.size 8 U) (A I n)).setCell (Y w.heap.size 9 U) (A I s)).setCell (Y w.heap.size 10 U) (H u)).setCell (Y w.heap.size 11 U) (O y B d5)).setCell (Y w.heap.size 12 U) (O C E d6)).setCell (Y w.heap.size 13 U) (O ao an ac)).setCell (Y w.heap.size 14 U) (O bo bn bc):=⟨_,rfl⟩;have dF:aq w.heap.size f Q:=by
   rw[i];iterate 15 refine Below.setCell ?_ (by simp) _
   exact aF _ _
  have fk:aP (fun b=>W<b) f Q:=⟨dF.size,fun b hb _=>by rw[i];iterate 15 rw[dL _ _ _ _ (by show b≠w.heap.size;omega)]⟩;have jd:Q.heap[w.heap.size]? =Z (M #[A I 3,A I p,H ⟨#[]⟩,H ⟨#[]⟩,az ak,O U 0 0,A I l,A I m,A I n,A I s,H u,O y B d5,O C E d6,O ao an ac,O bo bn bc] 109):=(by rw[i];simp[bw,dM,t7.out]);rw[<-i];exact CB oF jd eE fk dF (by omega) rfl
 by_cases h1:k=ag.Cs
 ·have q0:((ba k).toList==[105,102])=ak:=(by rw[fB];exact beq_eq_false_iff_ne.mpr (fun h=>K h));have q1:((ba k).toList==[119,104,105,108,101])=ap:=(by rw[fB,h1];decide);obtain⟨t,F,rfl⟩:∃t F,ts=t::F:=by
   cases ts with
   | nil=>have R:=j.out;rw[h1] at R;cases R
   | cons t F=>exact⟨t,F,rfl⟩
  have qW:t.2.2=k:=j.symm;have S:ah (ad=(ag.EJ (ag.fp e 12) Bk ak F).bind fun q r=>.ok (.mk 4 p (ba []) (ba []) ak [] q.1 q.2.1 q.2.2) r):=by
   show _=_;rw[nh.out];unfold ag.fd;rw[if_neg (by rw[<-j.out];exact K)];rw[if_pos (by rw[<-j.out];exact h1)];rw[oD.out];unfold ag.MN ag.EJ;show(ag.fp e 12 F).bind _=((ag.fp e 12 F).bind _).bind _;cases ag.fp e 12 F with
   | no c q=>rfl
   | ok x r1=>
    show(Bk r1).bind _=((Bk r1).bind _).bind _;cases Bk r1 with
    | no c q=>rfl
    | ok ae r2=>
     rfl
  have T:=Yj (p:=p) HE HK eF fK (by omega) ak (by rw[qW,h1];decide) 4 rfl;clear qW h1;go_wp2_with fail;refine T.mono ?_;rintro x f ⟨g,⟨d,r3,X,af,v3,rfl,⟨rfl,l,m,n,s,u,y,B,d5,C,E,d6,ao,an,ac,bo,bn,bc,G,jt,KY,aT⟩,pC⟩|⟨c,q,hr,rfl,r,v',bj⟩⟩;rotate_left
  ·refine⟨rfl,(gR.trans (g.mono (by omega))).grown,.inr ⟨c,q,?_,rfl,r,v',bj⟩⟩;rw[S.out,hr];rfl
  have oF:ah (jI w.heap.size w f rb e bl V ad (fun r=>.ok (.mk 4 p (ba []) (ba []) ak [] d.1 d.2.1 d.2.2) r) r3 v3):=⟨gR.trans (g.mono (by omega)),pC,(by rw[S.out,X];rfl),aK⟩;have N:f.heap[w.heap.size]? =Z (M #[A I 0,A I 0,H ⟨#[]⟩,H ⟨#[]⟩,az ak,O U 0 0,A I 0,A I 0,A I 0,A I 0,H ⟨#[]⟩,O U 0 0,O U 0 0,O U 0 0,O U 0 0] 109):=(g.block _ (by omega) (by omega)).trans ld;have t7:ah (f.heap[w.heap.size]? =Z (M #[A I 0,A I 0,H ⟨#[]⟩,H ⟨#[]⟩,az ak,O U 0 0,A I 0,A I 0,A I 0,A I 0,H ⟨#[]⟩,O U 0 0,O U 0 0,O U 0 0,O U 0 0] 109)):=N;have eE:ah (bK f (fun b=>W<b) (.mk 4 p (ba []) (ba []) ak [] d.1 d.2.1 d.2.2) [A I 4,A I p,H ⟨#[]⟩,H ⟨#[]⟩,az ak,O U 0 0,A I l,A I m,A I n,A I s,H u,O y B d5,O C E d6,O ao an ac,O bo bn bc]):=bK.of (by decide) (by decide) (kE _ _) jt KY aT;obtain⟨b0,a⟩:=fu N;obtain⟨⟨x0,o,x2,x3,x4,x5,x6,x7,x8,x9,fS,fR,fQ,fP,fO⟩,_⟩:=fu G;have y0:=a 0;have y1:=a 1;have y2:=a 2;have y3:=a 3;have y4:=a 4;have y5:=a 5;have y6:=a 6;have y7:=a 7;have y8:=a 8;have y9:=a 9;have Ek:=a 10;have Ej:=a 11;have Ei:=a 12;have Eh:=a 13;have Eg:=a 14;have l9:=J N;have l8:=J G;clear g X G jt KY aT pC N a T;go_wp2;obtain⟨Q,i⟩:=nm ((((((((((((((((f).setCell (Y w.heap.size 0 U) (A I 4)).setCell (Y w.heap.size 1 U) (A I p)).setCell (Y w.heap.size 2 U) (H ⟨#[]⟩)).setCell (Y w.heap.size 3 U) (H ⟨#[]⟩)).setCell (Y w.heap.size 4 U) (az ak)).setCell (Y w.heap.size 5 U) (O U 0 0)).setCell (Y w.heap.size 6 U) (A I l)).setCell (Y w.heap.size 7 U) (A I m)).setCell (Y w.heap.size 8 U) (A I n)).setCell (Y w.heap.size 9 U) (A I s)).setCell (Y w.heap.size 10 U) (H u)).setCell (Y w.heap.size 11 U) (O y B d5)).setCell (Y w.heap.size 12 U) (O C E d6)).setCell (Y w.heap.size 13 U) (O ao an ac)).setCell (Y w.heap.size 14 U) (O bo bn bc));have dF:aq w.heap.size f Q:=by
   rw[i];iterate 15 refine Below.setCell ?_ (by simp) _
   exact aF _ _
  have fk:aP (fun b=>W<b) f Q:=⟨dF.size,fun b hb _=>by rw[i];iterate 15 rw[dL _ _ _ _ (by show b≠w.heap.size;omega)]⟩;have jd:Q.heap[w.heap.size]? =Z (M #[A I 4,A I p,H ⟨#[]⟩,H ⟨#[]⟩,az ak,O U 0 0,A I l,A I m,A I n,A I s,H u,O y B d5,O C E d6,O ao an ac,O bo bn bc] 109):=(by rw[i];simp[bw,dM,t7.out]);rw[<-i];exact CB oF jd eE fk dF (by omega) rfl
 by_cases h2:k=ag.Ct
 ·have q0:((ba k).toList==[105,102])=ak:=(by rw[fB];exact beq_eq_false_iff_ne.mpr (fun h=>K h));have q1:((ba k).toList==[119,104,105,108,101])=ak:=(by rw[fB];exact beq_eq_false_iff_ne.mpr (fun h=>h1 h));have q2:((ba k).toList==[118,97,114])=ap:=(by rw[fB,h2];decide);obtain⟨t,F,rfl⟩:∃t F,ts=t::F:=by
   cases ts with
   | nil=>have R:=j.out;rw[h2] at R;cases R
   | cons t F=>exact⟨t,F,rfl⟩
  have qW:=j.symm;have S:ah (ad=(ag.JS e (ag.fp e 12) F).bind fun ae r=>ag.mP e (.mk 1 p ae.1 (ba []) ae.2.1.1 ae.2.1.2 ae.2.2 [] []) r):=(by show _=_;rw[nh.out];unfold ag.fd;rw[if_neg (by rw[<-j.out];exact K)];rw[if_neg (by rw[<-j.out];exact h1)];rw[if_pos (by rw[<-j.out];exact h2)];rw[oD.out];exact ag.ajD e (t::F));have T:=ajE (p:=p) HE eF fK (by omega);clear qW h2;go_wp2_with fail;refine T.mono ?_;rintro x f ⟨g,⟨d,r3,X,af,v3,rfl,⟨rfl,lo,ln,lc,l,m,n,s,u,y,B,d5,C,E,d6,G,N5,ai,jt⟩,pC⟩|⟨c,q,hr,rfl,r,v',bj⟩⟩;rotate_left
  ·refine⟨rfl,(gR.trans (g.mono (by omega))).grown,.inr ⟨c,q,?_,rfl,r,v',bj⟩⟩;rw[S.out,hr];rfl
  have ub:ah (jI w.heap.size w f rb e bl V ad (fun ts=>(ag.aR e [59] ts).bind fun _ r=>.ok (.mk 1 p d.1 (ba []) d.2.1.1 d.2.1.2 d.2.2 [] []) r) r3 v3):=⟨gR.trans (g.mono (by omega)),pC,(by rw[S.out,X];rfl),aK⟩;have zB:=am ((g.block _ (by omega) (by omega)).trans ld);have rm:=am G;have PR:=am ai;have LV:=am jt;have oC:=am N5;have qZ:=J G;clear g X G N5 ai jt pC T;go_wp2_with fail;refine(iI ⟨#[59]⟩ (by decide) ub.rd).mono ?_;intro x wz hp;rcases jQ (P:=ag.aR e [59]) ub (by omega) hp with⟨a9,r9,af,v9,rfl,rfl,kU,pG⟩|⟨ci,c,q,hr,rfl,r,v',bj⟩;rotate_left
  ·exact⟨rfl,ci.grown,.inr ⟨c,q,hr,rfl,r,v',bj⟩⟩
  have eE:ah (bK _ (fun b=>W<b) _ [A I 1,A I p,H d.1,H ⟨#[]⟩,az d.2.1.1,O lo ln lc,A I l,A I m,A I n,A I s,H u,O y B d5,O C E d6,O U 0 0,O U 0 0]):=bK.keeps (bK.of (a:=[]) (b:=[]) oC (by decide) PR LV (bH.none _ _ _ _) (bH.none _ _ _ _)) (aP.bP kU fun b hb=>by simp;omega);have iO:=dq kU zB (by omega);have iR:=dq kU rm (by omega);have t7:=am iO;have oF:=am pG;obtain⟨b0,a⟩:=fu iO;obtain⟨⟨x0,o,x2,x3,x4,x5,x6,x7,x8,x9,fS,fR,fQ,fP,fO⟩,_⟩:=fu iR;have y0:=a 0;have y1:=a 1;have y2:=a 2;have y3:=a 3;have y4:=a 4;have y5:=a 5;have y6:=a 6;have y7:=a 7;have y8:=a 8;have y9:=a 9;have Ek:=a 10;have Ej:=a 11;have Ei:=a 12;have Eh:=a 13;have Eg:=a 14;have l9:=J iO;have l8:=J iR;clear hp kU pG iO iR a;go_wp2;obtain⟨Q,i⟩:=nm ((((((((((((((((wz).setCell (Y w.heap.size 0 U) (A I 1)).setCell (Y w.heap.size 1 U) (A I p)).setCell (Y w.heap.size 2 U) (H d.1)).setCell (Y w.heap.size 3 U) (H ⟨#[]⟩)).setCell (Y w.heap.size 4 U) (az d.2.1.1)).setCell (Y w.heap.size 5 U) (O lo ln lc)).setCell (Y w.heap.size 6 U) (A I l)).setCell (Y w.heap.size 7 U) (A I m)).setCell (Y w.heap.size 8 U) (A I n)).setCell (Y w.heap.size 9 U) (A I s)).setCell (Y w.heap.size 10 U) (H u)).setCell (Y w.heap.size 11 U) (O y B d5)).setCell (Y w.heap.size 12 U) (O C E d6)).setCell (Y w.heap.size 13 U) (O U 0 0)).setCell (Y w.heap.size 14 U) (O U 0 0));have dF:aq w.heap.size wz Q:=by
   rw[i];iterate 15 refine Below.setCell ?_ (by simp) _
   exact aF _ _
  have fk:aP (fun b=>W<b) _ _:=⟨dF.size,fun b hb _=>by rw[i];iterate 15 rw[dL _ _ _ _ (by show b≠w.heap.size;omega)]⟩;have jd:Q.heap[w.heap.size]? =Z (M #[A I 1,A I p,H d.1,H ⟨#[]⟩,az d.2.1.1,O lo ln lc,A I l,A I m,A I n,A I s,H u,O y B d5,O C E d6,O U 0 0,O U 0 0] 109):=(by rw[i];simp[bw,dM,t7.out]);rw[<-i];exact CB oF jd eE fk dF (by omega) rfl
 rcases I1.out with h | h | h
 ·exact absurd h K
 ·exact absurd h h1
 ·exact absurd h h2
open ag (Tok Tr Po aA nx bI aO gg ba aV cV ii dV bL)
structure Dg {α:Type}(w2 wc:au)(tb e:Nat)(ts:List Tok)(v:aw)(bl:Int)(R:aA α)(X sb:Nat)(C:Av)(K:List Tok->aA α)(k:Nat)(c p:Int):Prop where
 t0:∃k0 c0 p0 b0,Tx w2 tb e ts v k0 c0 p0 b0 0
 gr:w2.grownBy wc (Z tb)
 st:St wc tb e ts v bl 0 R K k c p
 bx:wc.heap[X]? =Z (M #[aB (Z (Y tb 0 U))] 43)
 bE:wc.heap[sb]? =Z (M C 109)
 tl:tb<X
 xl:X<w2.heap.size
 sl:w2.heap.size<=sb
theorem Dg.cells {a:Type}{R:aA a}{K:List Tok->aA a}(h:Dg L wc G e ts v bl R X W C K k c p):wc.cell? (Y X 0 U)=Z (aB (Z (Y G 0 U)))/\X<wc.heap.size/\W<wc.heap.size:=by
 have:=h.bx;exact⟨by simp[aN,this],J h.bx,J h.bE⟩
theorem Dg.step {b:Type}{R:aA b}{K d:List Tok->aA b}(h:Dg L wc G e ts v bl R X W C K k c p)(a:wc.grownBy w' (Z G))(f:St w' G e ts v bl 0 R d k' c' p'):Dg L w' G e ts v bl R X W C d k' c' p':=by
 have g:=h.tl;have i:=h.xl;have j:=h.sl;exact⟨h.t0,h.gr.trans a,f,(a.block _ (J h.bx) (by simp;omega)).trans h.bx,(a.block _ (J h.bE) (by simp;omega)).trans h.bE,g,i,j⟩
theorem Dg.set {a:Type}{R:aA a}{b:Av}{K:List Tok->aA a}(h:Dg L wc G e ts v bl R X W C K k c p)(d:aq W wc w')(i:w'.heap[W]? =Z (M b 109)):Dg L w' G e ts v bl R X W b K k c p:=by
 obtain⟨m,c0,n,o,j⟩:=h.t0;have l:=h.xl;have f:=h.sl;have g:=d.mono f;exact⟨h.t0,mh h.gr g,⟨j.past h.gr h.st.1 g,h.st.2⟩,(d.block _ (by omega)).trans h.bx,i,h.tl,l,f⟩
theorem Dg.turn {a:Type}{R:aA a}{K b:List Tok->aA a}(h:Dg L wc G e ts v bl R X W C K k c p)(d:St wc G e ts v bl 0 R b k' c' p'):Dg L wc G e ts v bl R X W C b k' c' p':=⟨h.t0,h.gr,d,h.bx,h.bE,h.tl,h.xl,h.sl⟩
theorem Dg.keep {a:Type}{R:aA a}{K:List Tok->aA a}(h:Dg L wc G e ts v bl R X W C K k c p)(d:wc.grownBy w' (Z G)):aP (fun b=>W<b) wc w':=aP.bP d fun b f=>by have:=h.tl;have:=h.xl;have:=h.sl;simp;omega
def oP {α:Type}(e:Nat)(N:aV->List Tok->aA α)(op:Bool)(s:aV)(r:List Tok):aA α:=if op=ap then N s r else(ag.aR e [59] r).bind fun _ r2=>N s r2
theorem GD {b:Type}(e:Nat)(a:aV->List Tok->aA b)(s:aV)(r:List Tok):(ag.mP e s r).bind a=oP e a ak s r:=by
 unfold ag.mP oP;rw[iU];rfl
def StZ {α:Type}(w2 wc:au)(tb e:Nat)(ts:List Tok)(v:aw)(bl:Int)(R:aA α)(X sb:Nat)(N:aV->List Tok->aA α)(op:Bool):Prop:=
 ∃(s:aV) (x0 x1:Int) (x2 x3:Bt) (x4:Bool) (x5:Oa) (m5 d5:Nat) (x6 x7 x8 x9:Int) (fS:Bt) (fR:Oa) (m11 d11:Nat) (fQ:Oa) (m12 d12:Nat) (fP:Oa) (m13 d13:Nat) (fO:Oa) (m14 d14:Nat) (k:Nat) (c p:Int),Dg w2 wc tb e ts v bl R X sb #[A I x0,A I x1,H x2,H x3,az x4,O x5 m5 d5,A I x6,A I x7,A I x8,A I x9,H fS,O fR m11 d11,O fQ m12 d12,O fP m13 d13,O fO m14 d14] (oP e N op s) k c p/\(aY R->bK wc (fun b=>sb<b) s [A I x0,A I x1,H x2,H x3,az x4,O x5 m5 d5,A I x6,A I x7,A I x8,A I x9,H fS,O fR m11 d11,O fQ m12 d12,O fP m13 d13,O fO m14 d14])
theorem Tx.at (h:Tx w G e ts v k c p bl al):∃a n d,v=O a n d/\n=ts.length/\(k<n->∃b off,a=Z (Y b off U)/\b≠G/\b<w.heap.size/\w.cell? (Y b (off+k*3+1) U)=Z (A I (bI e (ts.drop k):Int)))/\(¬k<n->bI e (ts.drop k)=e):=by
 obtain⟨a,b,off,d,g,i,j⟩:=h.row;refine⟨a,ts.length,d,g,rfl,fun f=> ?_,fun f=>acl (by omega)⟩;obtain⟨l,m,o⟩:=i (by omega);refine⟨b,off,l,m,o,?_⟩;rw[TZ f];exact(j k f).2.1
theorem CD {a:Nat}{e:TypeId}(h:w.heap[b]? =Z (M C e))(u:aw):(w.setCell (Y b a U) u).heap[b]? =Z (M (C.setIfInBounds a u) e):=by
 simp only[bw,dM,h];rfl
theorem CK (h:k<ts.length):(nx (ts.drop k)).2.1=bI e (ts.drop k):=by rw[G4 h,TZ h]
open ag (Tok Tr Po aA nx bI aO gg ba)
structure xN (w0 w:au)(tb e:Nat)(ts:List Tok)(v:aw)(c p bl al:Int):Prop where
 A8:∃k0,Tx w0 tb e ts v k0 c p bl al
 gr:w0.grownBy w (Z tb)
 bE:w.heap[tb]? =Z (M (pw v (ts.length+1) e c p bl al) 102)
theorem xN.back (h:xN z w G e ts v c p bl al)(b:w.grownBy w' (Z G))(d:w'.heap[G]? =Z (M (pw v ts.length e c p bl al) 102)):Tx w' G e ts v ts.length c p bl al:=by
 obtain⟨f,a⟩:=h.A8;exact a.kept (h.gr.trans b) d (aD _) a.kO
theorem xN.later (h:xN z w G e ts v c p bl al)(a:Bl w w'):xN z w' G e ts v c p bl al:=⟨h.A8,h.gr.trans (dN _ a),(a.block _ (J h.bE)).trans h.bE⟩
theorem xN.cells (h:xN z w G e ts v c p bl al):w.cell? (Y G 0 U)=Z v/\w.cell? (Y G 1 U)=Z (A I ((ts.length+1:Nat):Int))/\w.cell? (Y G 3 U)=Z (A I c):=by
 have a:=h.bE;refine⟨?_,?_,?_⟩<;>simp[aN,a,pw]
theorem ahh (h:xN z w G e ts v c p bl al):
 aC prog 103 #[aB (Z (Y G 0 U))] w fun x w'=>x=aE (.agg #[A I 0,A I 0,H ⟨#[]⟩])/\Bl w w':=by
 obtain⟨t,f,_⟩:=h.cells;have u:=J h.bE;obtain⟨y,d⟩:=h.A8;obtain⟨B,b,C,E,g,l,m⟩:=d.row;obtain⟨n,hn⟩:=nm ts.length;have hf:=d.jZ;obtain⟨k,i⟩:=nm (n+1);rw[<-hn] at g hf f;rw[<-i] at f;subst g;have F:decide ((k:Int)<(n:Int))=ak:=(by simp;omega);have K:k<=100001:=(by omega);have L:¬k<n:=(by omega);clear h d l m hn i;go_enter func103,ntmps103;go_wp2
 go_quiet (fail)
 go_wp2;obtain⟨a,j⟩:=Qz w nq (A I 0) (A I 0) (H ⟨#[]⟩);obtain⟨N,o⟩:=nm (((((w.alloc (M #[A I 0,A I 0,H ⟨#[]⟩] 81)).drewN nq).setCell (Y w.heap.size 0 U) (A I 0)).setCell (Y w.heap.size 1 U) (A I 0)).setCell (Y w.heap.size 2 U) (H ⟨#[]⟩));rw[<-o] at a j⊢;have q:=cl a 0 rfl;have r:=cl a 1 rfl;have s:=cl a 2 rfl;exact bodyPost_ret (v:=.agg #[A I 0,A I 0,H ⟨#[]⟩]) (by simp[results,results103,go_sem,q,r,s]) rfl ⟨rfl,j⟩
theorem adw (j:Int)(g:c≠0)(h:xN z w G e ts v c p bl al):
 aC prog 47 #[aB (Z (Y G 0 U)),A I j] w fun x w'=>x=aE (.tuple #[])/\w.grownBy w' (Z G)/\Tx w' G e ts v ts.length c p bl al:=by
 obtain⟨k,q,r⟩:=h.cells;have s:w.frozen? (Y G 1 U)=ak:=(by simp[World.frozen?,h.bE]);have t:=J h.bE;have a:ah (xN z w G e ts v c p bl al):=h;obtain⟨u,d⟩:=h.A8;obtain⟨y,b,B,C,f,l,m⟩:=d.row;obtain⟨n,hn⟩:∃n,n=ts.length:=⟨_,rfl⟩;have hf:=d.jZ;rw[<-hn] at f hf;rw[f] at k;have E:(c==0)=ak:=(by simpa using g);have o:ah (w.grownBy (w.setCell (Y G 1 U) (A I (n:Int))) (Z G)/\Tx (w.setCell (Y G 1 U) (A I (n:Int))) G e ts v ts.length c p bl al):=(by have i:w.grownBy (w.setCell (Y G 1 U) (A I (n:Int))) (Z G):=eR (jh _ _) rfl _;exact⟨i,a.back i (by rw[<-hn];exact Cz (k':=n) a.bE)⟩);clear h d l m hn f g a;go_enter func47,ntmps47;go_wp2
 go_end0
 exact⟨rfl,o.out⟩
theorem ait (g:c≠0)(h:xN z w G e ts v c p bl al):
 aC prog 51 #[aB (Z (Y G 0 U))] w fun x w'=>x=aE (H ⟨#[]⟩)/\w.grownBy w' (Z G)/\Tx w' G e ts v ts.length c p bl al:=by
 have i:=ahh h;have k:=am h;have l:=am g;clear h g;go_enter func51,ntmps51;go_wp2_with fail;refine i.mono ?_;rintro x m ⟨rfl,a⟩;obtain⟨n,b⟩:=nm (m.alloc (M #[A I 0,A I 0,H ⟨#[]⟩] 81));have d:Bl w n:=(by rw[b];exact a.alloc a.size _);have j:=adw 1 l.out (k.later d);have o:=am d;have q:=am b;clear a i d b;go_wp2_with fail;rw[<-q.out];refine j.mono ?_;rintro x L ⟨rfl,f⟩;have r:=am (aj ((dN _ o.out).trans f.1) f.2);clear f j;go_wp2;go_ret;exact⟨rfl,r.out⟩
structure iV {α:Type}(El:au->(Np)->α->Lv->Prop)(w:au)(B ty sz:Nat)(X:Np)(v:aw)(acc:List α):Prop where
 ex:∃css:List (Lv),w.ownsRow B ty sz v acc.length css.flatten/\css.length=acc.length/\∀i (h:i<acc.length) (h':i<css.length),El w (fun b=>X b/\Z b≠v.ownBlock) acc[i] css[i]
 own:∀k,v.ownBlock=Z k->X k
theorem iV.nil {a:Type}(El:au->(Np)->a->Lv->Prop)(w:au)(B ty sz:Nat)(X:Np):iV El w B ty sz X (O U 0 0) []:=
 ⟨⟨[],World.ownsRow_nil _ _ _ _,rfl,fun i b=>by simp at b⟩,fun k c=>by simp[Value.ownBlock] at c⟩
theorem iV.step {a:Type}{El:au->(Np)->a->Lv->Prop}{X:Np}{acc:List a}{c:Option Nat}(K:ng El sz)(h:iV El w B ty sz X v acc)(d:w.grownBy w' c)(f:∀k,c=Z k->¬X k):iV El w' B ty sz X v acc:=by
 obtain⟨g,j,l,m⟩:=h.ex;refine⟨⟨g,j.kept d ?_,l,fun i n o=>K.keeps (m i n o) (aP.bP d fun b p e=>f b e.symm p.1)⟩,h.own⟩;cases hv:v.ownBlock with
 | none=>exact .inl rfl
 | some k=>exact .inr fun e=>f k e.symm (h.own k hv)
theorem iV.mono {a:Type}{El:au->(Np)->a->Lv->Prop}{X X':Np}{acc:List a}(K:ng El sz)(h:iV El w B ty sz X v acc)(k:∀b,X b->b<w.heap.size->X' b):iV El w B ty sz X' v acc:=by
 obtain⟨f,c,g,l⟩:=h.ex;exact⟨⟨f,c,g,fun i m n=>K.mono (l i m n) fun b d o=>⟨k b d.1 o,d.2⟩⟩,fun j e=>k j (h.own j e) (c.lt j e).2⟩
theorem iV.slice {a:Type}{El:au->(Np)->a->Lv->Prop}{X:Np}{acc:List a}(h:iV El w B ty sz X v acc):∃b c,v=O b acc.length c:=by
 obtain⟨e,d,_⟩:=h.ex;exact nt d
theorem iV.CJ {a:Type}{El:au->(Np)->a->Lv->Prop}{X:Np}{acc:List a}(K:ng El sz)(h:iV El w B ty sz X v acc)(k:∀b,X b->B<=b):bO El w B ty sz v acc:=by
 obtain⟨d,e,f,g⟩:=h.ex;exact⟨d,e,f,fun i j l=>K.mono (g i j l) fun b c _=>⟨k b c.1,c.2⟩⟩
theorem iV.add {f:Type}{El:au->(Np)->f->Lv->Prop}{w1:au}{X:Np}{u:aw}{acc:List f}{a:f}{xs:Lv}{css:List (Lv)}(K:ng El sz)(g:∀k,lv.ownBlock=Z k->X k)(o:css.length=acc.length)(s:∀i (h:i<acc.length) (F:i<css.length),El w (fun b=>X b/\Z b≠lv.ownBlock) acc[i] css[i])(j:∀b,X b->b<w.heap.size)(t:¬X rb)
 (p:w.grownBy w1 (Z rb)) (hx:El w1 (fun b=>w.heap.size<=b) a xs) (q:w1.grownBy w' lv.ownBlock) (v:w'.ownsRow B ty sz u (acc.length+1) (css.flatten++xs)) (c:u.ownBlock=lv.ownBlock\/u.ownBlock=Z w1.heap.size):iV El w' B ty sz (fun b=>X b\/w.heap.size<=b) u (acc++[a]):=by
 have x:=p.size;refine⟨⟨css++[xs],by simpa using v,by simp[o],fun i y G=> ?_⟩,fun k l=> ?_⟩
 ·by_cases r:i<acc.length
  ·rw[List.getElem_append_left r,List.getElem_append_left (by omega)];have m:=K.keeps (s i r (by omega)) (aP.bP p fun b d e=>t (by cases e;exact d.1));have n:=K.keeps m (aP.bP q fun b d=>d.2);refine K.mono n fun b d _=>⟨.inl d.1,?_⟩;rcases c with c | c
   ·rw[c];exact d.2
   ·rw[c];have:=j b d.1;simp;omega
  ·have z:i=acc.length:=(by simp at y;omega);subst z;have m:El w1 (fun b=>w.heap.size<=b/\b<w1.heap.size) a xs:=K.mono hx fun b d C=>⟨d,C⟩;have n:=K.keeps m (aP.bP q fun b d e=>by have:=j b (g b e.symm);omega)
   have E:El w' (fun b=>(X b∨w.heap.size≤b)∧Z b≠u.ownBlock) a xs:=K.mono n fun b d _=>⟨.inr d.1,fun e=>by
    rcases c with c | c
    ·have:=j b (g b (by rw[<-c];exact e.symm));omega
    ·rw[c] at e;cases e;omega⟩
   rw[List.getElem_append_right (aD _),List.getElem_append_right (by omega)];simpa[o] using E
 ·rcases c with c | c
  ·exact .inl (g k (by rw[<-c];exact l))
  ·rw[c] at l;cases l;exact .inr x
end Go.Proofs.YtoiiahpdbcokaaaGreatDoor
