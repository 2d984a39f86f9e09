/- How tree.writer writes an expression: bound and op. And more of the same. -/
import Derived.Test.YtoiiahpdbcokaaaGreatDoorZP
import Derived.Test.YtoiiahpdbcokaaaGreatDoorZShelfN
import Derived.Lib.AtoiTie
import Derived.OpenShut
import Derived.Deep.Slices
import Derived.Deep.Strs
import Derived.Lib.LaidTab
import Derived.Lib.LaidU8
import Derived.WalkSmall
namespace Go.Proofs.YtoiiahpdbcokaaaGreatDoor
open Go.IntKind renaming i64 -> I
open Go.Value renaming slice -> O, pointer -> aB
open _root_.Option renaming none -> U, some -> Z
open Go.Addr renaming mk -> Y
open Go.Obj renaming cells -> M
open Go renaming lt_of_block -> J, World -> au, Calls -> aC
open Go.Ending renaming returned -> aE
open _root_.List renaming length_append -> iG, length_cons -> iz
open Go.RowKit renaming Hid -> ah
open _root_.Go.Proofs.Tryz
set_option maxRecDepth 100000
set_option maxHeartbeats 8000000
open Go.RowKit
open ag (Tok Po Tr nx bI aO ba aA)
variable {w X wr:au} {b m off W:Nat} {l:Lu} {V:Lv} {t x:Tr} {n p R:Int} {s:Bt} {Q:List Po}
theorem WS.ex (h:WS X wr W l)(hx:iY X b off V):iY wr b off V:=hx.keeps h.ff.size (h.ff.block _ hx.lt)
theorem WS.mb (h:WS X wr W l)(a:gU X X.heap.size):gU wr X.heap.size:=a.keeps h.ff.size fun b c=>h.ff.block b c
theorem WS.Pa (h:WS X wr W l):WS X wr.drew W l:=h.later ⟨rfl,rfl,rfl,Nat.le_refl _,fun _ _=>rfl⟩
def Ps (wq:au)(wb m:Nat)(t:Tr):Prop:=∀(wr:au) (l:Lu) (b off:Nat) (cs:Lv),WS wq wr wb l->iY wq b off cs->aS wq (fun b=>b<wq.heap.size) t cs->l.length+ag.Bd m<=90000000000000->
 aC prog 117 #[aB (Z (Y wb 0 U)),aB (Z (Y b off U))] wr fun x w'=>x=aE (.tuple #[])/\WS wq w' wb (l++ag.el m t)
def Pt (wq:au)(wb m:Nat)(t:Tr):Prop:=∀(wr:au) (l:Lu) (b off:Nat) (cs:Lv) (least:Nat),WS wq wr wb l->iY wq b off cs->aS wq (fun b=>b<wq.heap.size) t cs->l.length+ag.Bd m+2<=90000000000000->
 aC prog 204 #[aB (Z (Y wb 0 U)),aB (Z (Y b off U)),.int I (least:Int)] wr fun x w'=>x=aE (.tuple #[])/\WS wq w' wb (l++ag.nk (ag.nN least t) (ag.el m t))
theorem TJ (er:gU X X.heap.size)(hf:ag.dZ m t=true)(L:Ps X W m t):Pt X W m t:=by
 intro wr l b off V d h hx N P;have ae:=(ag.Jp m t hf).1;have S:=hx;have R2:=N;cases N with
 | @mk k p n R s Q ad lv av af hs ef hr f hk=>
 obtain⟨ao,ab,bC,ac,rfl,j⟩:=hr;have uz:=j.cap;have vK:=j.mx;obtain⟨c0,c1,c2,c3,c4,c5,c6⟩:=(h.ex hx).all;have aK:=(h.ex hx).lt;have o:=JO (h.mb er) s;obtain⟨mb,r⟩:∃mb,mb=ag.dW s.data.toList:=⟨_,rfl⟩;rw[<-r] at o;obtain⟨an,u⟩:∃an,an=af.length:=⟨_,rfl⟩;rw[<-u] at c6 uz;obtain⟨T,g⟩:∃T,T=ag.el m (.mk k p n R s Q ad):=⟨_,rfl⟩;rw[<-g] at ae;have HE:ah (∀(wr:au) (l:Lu),WS X wr W l->l.length+ag.Bd m<=90000000000000->aC prog 117 #[aB (Z (Y W 0 U)),aB (Z (Y b off U))] wr fun x w=>x=aE (.tuple #[])/\WS X w W (l++T)):=fun wr l h P=>(by rw[g];exact L wr l b off _ h S R2 P);obtain⟨q,a⟩:∃q,q=ag.nN d (.mk k p n R s Q ad):=⟨_,rfl⟩;have y:ah (q=(k==3 && (an==2 && decide (mb<d)))):=(by show _=_;rw[a,u,f,r];rfl);rw[<-a,<-g];have HS:ah (WS X wr W l):=h;unfold maxLen at vK;clear a g r j f hk ef h hx S R2 L hf u;have no:q=false->aC prog 204 #[aB (Z (Y W 0 U)),aB (Z (Y b off U)),.int I (d:Int)] wr fun x w=>x=aE (.tuple #[])/\WS X w W (l++ag.nk q T):=by
  intro a;have z:ah (ag.nk q T=T):=(by show _=_;rw[a];rfl);have e:=HE.out wr l HS.out (by omega);rw[z.out];rw[a] at y;by_cases B:k=3
  ·subst B;by_cases C:an=2
   ·subst C;have E:¬mb<d:=by
     have:=y.out;simp at this;omega
    have hd:decide (mb<d)=false:=(by simp;omega);clear a E;go_enter func204,ntmps204;go_wp2_with fail;refine o.mono ?_;rintro x w1 ⟨rfl,F⟩;have G:=F.symm;subst G;go_wp2_with fail;refine e.mono ?_;rintro x i ⟨rfl,c⟩;go_wp2
    go_end0
    exact⟨rfl,c⟩
   ·have b2:((an:Int)==2)=false:=(by rw[aca];simp[C]);clear a C;go_enter func204,ntmps204;go_wp2_with fail;refine e.mono ?_;rintro x i ⟨rfl,c⟩;go_wp2
    go_end0
    exact⟨rfl,c⟩
  ·have b3:(k==3)=false:=(by simp[B]);clear a B;go_enter func204,ntmps204;go_wp2_with fail;refine e.mono ?_;rintro x i ⟨rfl,c⟩;go_wp2
   go_end0
   exact⟨rfl,c⟩
 cases Bq:q with
 | false=>have:=no Bq;rwa [Bq] at this
 | true=>
  clear no;have K:=y.out;rw[Bq] at K;simp only[Bool.true_eq,Bool.and_eq_true,beq_iff_eq,decide_eq_true_eq] at K;obtain⟨rfl,rfl,E⟩:=K;have hd:decide (mb<d)=true:=(by simp;omega);have z:ah (l++ag.nk true T=((l++[40])++T)++[41]):=(by show _=_;unfold ag.nk;simp);rw[z.out];have qi:=HS.str ⟨#[40]⟩ (by show l.length+1<=_;omega);clear Bq E;go_enter func204,ntmps204;go_wp2_with fail;refine o.mono ?_;rintro x w1 ⟨rfl,F⟩;have G:=F.symm;subst G;go_wp2_with fail;refine qi.mono ?_;rintro x i ⟨rfl,c,_⟩;have e:=HE.out i (l++[40]) c (by simp;omega);clear c qi;go_wp2_with fail;refine e.mono ?_;rintro x w3 ⟨rfl,h3⟩;have f:=h3.str ⟨#[41]⟩ (by show _+1<=_;simp;omega);clear h3 e;go_wp2_with fail;refine f.mono ?_;rintro x w4 ⟨rfl,h4,_⟩;go_wp2;exact bodyPost_ret (v:=.tuple #[]) (by simp[results,results204,go_sem]) rfl ⟨rfl,h4⟩
theorem ajv (s:Lu):ag.dW s<=5:=by
 unfold ag.dW;split
 ·omega
 split
 ·omega
 split
 ·omega
 split
 ·omega
 split
 ·omega
 ·omega
theorem RN (h:iY w b (off+0*7) V):iY w b off V:=by simpa using h
theorem aku (h:iY w b (off+1*7) V):iY w b (off+7) V:=by simpa using h
theorem ahJ (C:gU X X.heap.size)(ec:s.size<=2)(k:Pt X W m x)(wr:au)(l:Lu)(b off:Nat)(V:Lv)(h:WS X wr W l)(hx:iY X b off V)(E:aS X (fun b=>b<X.heap.size) (.mk 3 p n R s Q [x]) V)(o:l.length+ag.Bd (m+1)<=90000000000000):
 aC prog 165 #[aB (Z (Y W 0 U)),aB (Z (Y b off U))] wr fun y w'=>y=aE (.tuple #[])/\WS X w' W (l++(s.data.toList++ag.nk (ag.nN 6 x) (ag.el m x))):=by
 have iC:=ag.Qi m;have OC:=ag.Qj m;cases E with
 | @mk _ _ _ _ _ _ _ F av q hs G K r t=>
 obtain⟨ao,ab,d,ac,rfl,a⟩:=K;have e:q.length=1:=r;have L:=a.dR (by omega);subst L;have N:=a.cap;have P:=a.mx;have yU:=a.lt (by omega);obtain⟨c0,c1,c2,c3,c4,c5,S⟩:=(h.ex hx).all;have aK:=(h.ex hx).lt;have u:=JO (h.mb C) s;obtain⟨mb,w⟩:∃mb,mb=ag.dW s.data.toList:=⟨_,rfl⟩;rw[<-w] at u;have T:ah (∀(c:au) (l:Lu),WS X c W l->l.length+ag.Bd m+2<=90000000000000->aC prog 204 #[aB (Z (Y W 0 U)),aB (Z (Y ab d U)),.int I ((6:Nat):Int)] c fun y w'=>y=aE (.tuple #[])/\WS X w' W (l++ag.nk (ag.nN 6 x) (ag.el m x))):=fun c l hW o=>k c l ab d q[0] 6 hW (RN (Hf a (by omega))) (t 0 (by simp) (by omega)) o;rw[e] at S N;have z:=(h.Pa).str s (by omega);have eE:=am z;have f:ah (iY X b off [.int I 3,.int I p,.int I n,.int I R,.string s,F,O (Z (Y ab d U)) 1 ac]):=(by rw[e] at hx;exact hx);have ct:=bsize s;unfold maxLen at P;clear z w a r t G h hx k e;go_enter func165,ntmps165;go_wp2_with fail;refine u.mono ?_;rintro y w1 ⟨rfl,hw⟩;have dH:=hw.symm;subst dH;go_wp2
 go_region_held3 (fun w'=>w'.cell? (Y b (off+4) U)=Z (.string s)) (go_keep)
  (first
    |(go_at_call 135;refine(eE.out).mono ?_;rintro y g ⟨rfl,i,_⟩;have j:ah (WS X g W (l++s.data.toList)):=i;have q4:g.cell? (Y b (off+4) U)=Z (.string s):=(i.ex f.out).all.2.2.2.2.1;clear i))
 obtain⟨_,_,_,_,_,_,e6⟩:=(j.ex f.out).all;have vE:=(j.ex f.out).lt;have B:=T.out g (l++s.data.toList) j.out (by rw[iG];omega);rw[List.append_assoc] at B;go_wp2_with fail;refine B.mono ?_;rintro y w3 ⟨rfl,h3⟩;go_wp2;exact bodyPost_ret (v:=.tuple #[]) (by simp[results,results165,go_sem]) rfl ⟨rfl,h3⟩
theorem ahI {y:Tr}(er:gU X X.heap.size)(ec:s.size<=2)(B:ag.dZ m x=true)(C:Pt X W m x)(E:Pt X W m y)(wr:au)(l:Lu)(b off:Nat)(V:Lv)(h:WS X wr W l)(hx:iY X b off V)(ht:aS X (fun b=>b<X.heap.size) (.mk 3 p n R s Q [x,y]) V)(g:l.length+ag.Bd (m+1)<=90000000000000):
 aC prog 165 #[aB (Z (Y W 0 U)),aB (Z (Y b off U))] wr fun a w'=>a=aE (.tuple #[])/\WS X w' W (l++(ag.nk (ag.nN (ag.dW s.data.toList) x) (ag.el m x)++(32::(s.data.toList++(32::ag.nk (ag.nN (ag.dW s.data.toList+1) y) (ag.el m y)))))):=by
 have iC:=ag.Qi m;have OC:=ag.Qj m;have ae:=(ag.Jp m x B).1;have F:=ag.MK (ag.nN (ag.dW s.data.toList) x) (ag.el m x);cases ht with
 | @mk _ _ _ _ _ _ _ lv av r hs ef hr G e=>
 obtain⟨ao,ab,f,ac,rfl,d⟩:=hr;have t:r.length=2:=G;have mf:=d.dR (by omega);subst mf;have uz:=d.cap;have vK:=d.mx;have yU:=d.lt (by omega);obtain⟨c0,c1,c2,c3,c4,c5,K⟩:=(h.ex hx).all;have aK:=(h.ex hx).lt;have u:=JO (h.mb er) s;have Ao:ag.dW s.data.toList<=5:=ajv _;obtain⟨mb,L⟩:=nm (ag.dW s.data.toList);rw[<-L] at u Ao F⊢;have N:ah (∀(c:au) (l:Lu),WS X c W l->l.length+ag.Bd m+2<=90000000000000->aC prog 204 #[aB (Z (Y W 0 U)),aB (Z (Y ab f U)),.int I (mb:Int)] c fun a w'=>a=aE (.tuple #[])/\WS X w' W (l++ag.nk (ag.nN mb x) (ag.el m x))):=fun c l v g=>C c l ab f r[0] mb v (RN (Hf d (by omega))) (e 0 (by simp) (by omega)) g;have P:ah (∀(c:au) (l:Lu),WS X c W l->l.length+ag.Bd m+2<=90000000000000->aC prog 204 #[aB (Z (Y W 0 U)),aB (Z (Y ab (f+7) U)),.int I ((mb+1:Nat):Int)] c fun a w'=>a=aE (.tuple #[])/\WS X w' W (l++ag.nk (ag.nN (mb+1) y) (ag.el m y))):=fun c l v g=>E c l ab (f+7) r[1] (mb+1) v (aku (Hf d (by omega))) (e 1 (by simp) (by omega)) g;rw[t] at K uz;have i:ah (iY X b off [.int I 3,.int I p,.int I n,.int I R,.string s,lv,O (Z (Y ab f U)) 2 ac]):=(by rw[t] at hx;exact hx);have ct:=bsize s;obtain⟨S,T⟩:=nm (ag.nk (ag.nN mb x) (ag.el m x));obtain⟨ad,hY⟩:=nm (ag.nk (ag.nN (mb+1) y) (ag.el m y));rw[<-T] at N F⊢;rw[<-hY] at P⊢;have HS:=am h;unfold maxLen at vK;have fV:=N.out wr l h (by omega);clear L d G e ef h hx C E t T hY B;go_enter func165,ntmps165;go_wp2_with fail;refine u.mono ?_;rintro a w1 ⟨rfl,hw⟩;have dH:=hw.symm;subst dH;go_wp2_with fail;refine fV.mono ?_;rintro a w2 ⟨rfl,j⟩;have H2:=am j;obtain⟨_,_,_,_,e4,_,e6⟩:=(j.ex i.out).all;have vE:=(j.ex i.out).lt;clear j fV u c0 c1 c2 c3 c4 c5 K;obtain⟨w3,o⟩:=nm (w2.alloc (M #[.string ⟨#[32]⟩,.string s,.string ⟨#[32]⟩] 9));have aT:=eS o;have h3:=H2.later aT;have Am:=aa o
 have w:nY [⟨#[32]⟩,s,⟨#[32]⟩]=32::(s.data.toList++[32]):=by simp[nY]
 have z:=Rb (n:=3) [⟨#[32]⟩,s,⟨#[32]⟩] #[.string ⟨#[32]⟩,.string s,.string ⟨#[32]⟩] rfl (by omega) (fun k e=>by
  match k,e with
  | 0,_=>rfl
  | 1,_=>rfl
  | 2,_=>rfl) h3 Am (by have:=H2.lt;omega) (by rw[w];simp only[iG,iz,List.length_nil];omega)
 rw[w] at z;clear w h3 Am aT;go_wp2_with fail;rw[<-o];clear o;refine z.mono ?_;rintro a w4 ⟨rfl,q⟩;obtain⟨_,_,_,_,_,_,d6⟩:=(q.ex i.out).all;have af:=(q.ex i.out).lt;have et:=P.out w4 _ q (by simp only[iG,iz,List.length_nil];omega);have HE:ah ((l++S)++(32::(s.data.toList++[32]))++ad=l++(S++(32::(s.data.toList++(32::ad))))):=(by show _=_;simp);rw[HE.out] at et;clear q z e4 e6;go_wp2_with fail;refine et.mono ?_;rintro a w5 ⟨rfl,h5⟩;go_wp2
 go_end0
 exact⟨rfl,h5⟩
theorem aoh (l:Lu):(⟨l.toArray⟩:Bt).data.toList=l:=by simp
theorem WW (l:Lu):(⟨l.toArray⟩:Bt).size=l.length:=by simp[ByteArray.size]
theorem akx {a:List Tr}{k:Nat}(b:k<a.length):Lib.join ((a.take (k+1)).map (ag.el m)) [44,32]=(if k=0 then[] else Lib.join ((a.take k).map (ag.el m)) [44,32]++[44,32])++ag.el m a[k]:=by
 rw[List.take_succ_eq_append_getElem b,List.map_append,List.map_cons,List.map_nil,Zi]
 congr 1
 by_cases h:k=0
 ·subst h;simp
 ·rw[if_neg h,if_neg];intro e;have:=congrArg List.length e;rw[List.length_map,List.length_take,List.length_nil] at this;omega
theorem ani (hI:BY X)(er:gU X X.heap.size)(G:∀t,ag.dZ m t=true->Ps X W m t)(t:Tr)(hf:ag.dZ (m+1) t=true):Ps X W (m+1) t:=by
 intro wr l b off V h hx L hl;obtain⟨k,p,n,R,s,Q,d⟩:=t;obtain⟨q,c⟩:=ag.aba hf;have iC:=ag.Qi m;have OC:=ag.Qj m;rcases ag.Pr q with⟨rfl,hn,rfl⟩|⟨rfl,hn,rfl⟩|⟨rfl,iE,hv⟩|⟨rfl,iE,hv⟩|⟨rfl,hn,iE⟩|⟨rfl,hn,iE⟩
 ·rw[ag.WE];have sS:=(ag.X7 hn).1;cases L with
  | @mk _ _ _ _ _ _ _ lv av N hs u y g j=>
  obtain⟨c0,c1,c2,c3,c4,c5,K⟩:=(h.ex hx).all;have aK:=(h.ex hx).lt;have rN:=ahX hI (h.Pa).ff hn;obtain⟨T,z⟩:∃T,T=ag.yA R n:=⟨_,rfl⟩;rw[<-z] at rN sS⊢;have Vj:ah (aC prog 164 #[.int I R,.int I n] wr.drew fun x f=>x=aE (.string ⟨T.toArray⟩)/\Below wr.drew.heap.size wr.drew f):=rN;have HS:ah (WS _ _ _ _):=h;have HW:ah (∀a,WS X a W l->aC prog 135 #[aB (Z (Y W 0 U)),.string ⟨T.toArray⟩] a fun e f=>e=aE (.tuple #[.int I T.length,.nilIface])/\WS X f W (l++T)):=fun a o=>by
   have:=o.str ⟨T.toArray⟩ (by rw[WW];omega);rw[aoh,WW] at this;exact this.mono fun e f ⟨e1,e2,_⟩=>⟨e1,e2⟩
  have v:ah (∀a,WS X a W l->a.cell? (Y b (off+3) U)=Z (.int I R)/\a.cell? (Y b (off+2) U)=Z (.int I n)):=fun a o=>⟨(o.ex hx).all.2.2.2.1,(o.ex hx).all.2.2.1⟩;have o8:ah (∀a,WS X a W (l++T)->a.cell? (Y b (off+3) U)=Z (.int I R)/\a.cell? (Y b (off+2) U)=Z (.int I n)):=fun a o=>⟨(o.ex hx).all.2.2.2.1,(o.ex hx).all.2.2.1⟩;clear rN h hx z u y g j hn q c hf;go_enter func117,ntmps117;go_wp2
  go_region_held3 (fun f=>f.cell? (Y b (off+3) U)=Z (.int I R)/\f.cell? (Y b (off+2) U)=Z (.int I n)) (go_keep)
   (first
     |(go_at_call 164;refine(Vj.out).mono ?_;rintro B C ⟨rfl,aJ⟩;have H1:ah (WS X C W l):=HS.Pa.later aJ;obtain⟨q0,q1⟩:=v.out C H1.out;clear aJ)
     |(go_at_call 135;refine(HW.out _ H1).mono ?_;rintro B P ⟨rfl,c⟩;have H2:ah (WS X P W (l++T)):=c;obtain⟨q2,q3⟩:=o8.out P c;clear c))
  go_wp2
  go_end0
  exact⟨rfl,H2.out⟩
 ·rw[ag.WD];have sS:=(ag.G6 hn).1;cases L with
  | @mk _ _ _ _ _ _ _ lv av N hs u y g j=>
  obtain⟨c0,c1,c2,c3,c4,c5,K⟩:=(h.ex hx).all;have aK:=(h.ex hx).lt;have di:=(h.Pa).str s (by omega);have eE:ah (aC prog 135 #[aB (Z (Y W 0 U)),.string s] wr.drew fun e f=>e=aE (.tuple #[.int I s.size,.nilIface])/\WS X f W (l++s.data.toList)/\Lib.OthersKept 5 (Z W) wr.drew f):=di;have o8:ah (∀a,WS X a W (l++s.data.toList)->a.cell? (Y b (off+4) U)=Z (.string s)):=fun a o=>(o.ex hx).all.2.2.2.2.1;clear di h hx u y g j hn q c hf;go_enter func117,ntmps117;go_wp2
  go_region_held3 (fun f=>f.cell? (Y b (off+4) U)=Z (.string s)) (go_keep)
   (first
     |(go_at_call 135;refine(eE.out).mono ?_;rintro B P ⟨rfl,c,_⟩;have H2:ah (WS X P W (l++s.data.toList)):=c;have q2:=o8.out P c;clear c))
  go_wp2
  go_end0
  exact⟨rfl,H2.out⟩
 ·obtain⟨x,B,rfl⟩:=ag.WG iE;rw[ag.WB];have ct:s.size<=2:=(by rw[<-bsize];exact(ag.YG hv).1);have w:=c x (by simp);have fy:=c B (by simp);have S:=ahI er ct w (TJ er w (G x w)) (TJ er fy (G B fy)) wr l b off V h hx L hl;obtain⟨T,z⟩:∃T,T=l++(ag.nk (ag.nN (ag.dW s.data.toList) x) (ag.el m x)++(32::(s.data.toList++(32::ag.nk (ag.nN (ag.dW s.data.toList+1) B) (ag.el m B))))):=⟨_,rfl⟩;rw[<-z] at S⊢;cases L with
  | @mk _ _ _ _ _ _ _ lv av N hs u y g j=>
  obtain⟨c0,c1,c2,c3,c4,c5,K⟩:=(h.ex hx).all;have aK:=(h.ex hx).lt;clear h hx u y g j q c hf z G w fy;go_enter func117,ntmps117;go_wp2_with fail;refine S.mono ?_;rintro F C ⟨rfl,q⟩;go_wp2
  go_end0
  exact⟨rfl,q⟩
 ·obtain⟨x,rfl⟩:=ag.Nb iE;rw[ag.WC];have ct:s.size<=2:=(by rw[<-bsize];rcases hv with h | h<;>rw[h]<;>simp);have w:=c x (by simp);have S:=ahJ er ct (TJ er w (G x w)) wr l b off V h hx L hl;obtain⟨T,z⟩:∃T,T=l++(s.data.toList++ag.nk (ag.nN 6 x) (ag.el m x)):=⟨_,rfl⟩;rw[<-z] at S⊢;cases L with
  | @mk _ _ _ _ _ _ _ lv av N hs u y g j=>
  obtain⟨c0,c1,c2,c3,c4,c5,K⟩:=(h.ex hx).all;have aK:=(h.ex hx).lt;clear h hx u y g j q c hf z G w;go_enter func117,ntmps117;go_wp2_with fail;refine S.mono ?_;rintro F C ⟨rfl,q⟩;go_wp2
  go_end0
  exact⟨rfl,q⟩
 ·rw[ag.WA];have sS:=(ag.G6 hn).1;have vB:∀x∈d,(ag.el m x).length<=ag.Bd m:=fun x hx=>(ag.Jp m x (c x hx)).1;cases L with
  | @mk _ _ _ _ _ _ _ lv av N hs u y g j=>
  obtain⟨ao,ab,bC,ac,rfl,r⟩:=y;have uz:=r.cap;have vK:=r.mx;obtain⟨c0,c1,c2,c3,c4,c5,K⟩:=(h.ex hx).all;have aK:=(h.ex hx).lt;have ct:=bsize s;have HK:ah (∀(k:Nat) (nU:k<d.length) (a:au) (l:Lu),WS X a W l->l.length+ag.Bd m<=90000000000000->aC prog 117 #[aB (Z (Y W 0 U)),aB (Z (Y ab (bC+k*7) U))] a fun B f=>B=aE (.tuple #[])/\WS X f W (l++ag.el m d[k])):=fun k nU a l o hl=>by
   have mf:=r.dR (by omega);subst mf;exact G d[k] (c _ (List.getElem_mem nU)) a l ab (bC+k*7) (N[k]'(by omega)) o (Hf r (by omega)) (j k nU (by omega)) hl
  have ae:ah (0<d.length->ao=Z (Y ab bC U)):=fun h=>r.dR (by omega);have B1:ah (∀k,k<=d.length->(Lib.join ((d.take k).map (ag.el m)) [44,32]).length<=k*(ag.Bd m+2)):=fun k j=>by
   have:=ag.Ze (m:=m) (a:=d.take k) fun x hx=>vB x (List.mem_of_mem_take hx);rwa [List.length_take,Nat.min_eq_left j] at this
  have af:ah (0<d.length->ab<X.heap.size):=fun h=>r.lt (by omega);obtain⟨an,rW⟩:∃an,an=N.length:=⟨_,rfl⟩;have MA:ah (an=d.length):=(by show _=_;omega);rw[<-rW] at K uz;have v:ah (iY X b off [.int I 4,.int I p,.int I n,.int I R,.string s,lv,O ao an ac]):=(by rw[<-rW] at hx;exact hx);have BI:an<=4:=(by omega);have HS:ah (WS _ _ _ _):=h;unfold maxLen at vK;obtain⟨C,cI⟩:∃C,C=wr.alloc (M #[.string s,.string ⟨#[40]⟩] 9):=⟨_,rfl⟩;have aJ:Bl wr C:=(by rw[cI];exact(Below.refl _ _).alloc (Nat.le_refl _) _);have fm:=h.later aJ;have C0:C.heap[wr.heap.size]? =Z (M #[.string s,.string ⟨#[40]⟩] 9):=(by rw[cI];exact cu _ _ _ rfl);have rQ:nY [s,⟨#[40]⟩]=s.data.toList++[40]:=by simp[nY]
  have dy:=Rb (n:=2) [s,⟨#[40]⟩] #[.string s,.string ⟨#[40]⟩] rfl (by omega) (fun k j=>by
   match k,j with
   | 0,_=>rfl
   | 1,_=>rfl) fm C0 (by have:=h.lt;omega) (by rw[rQ];simp only[iG,iz,List.length_nil];omega)
  rw[rQ] at dy;clear rQ fm C0 aJ h hx u r g j q c hf G hn vB rW;go_enter func117,ntmps117;go_wp2_with fail;rw[<-cI];clear cI;refine dy.mono ?_;rintro F P ⟨rfl,c⟩;obtain⟨_,_,_,_,_,_,d6⟩:=(c.ex v).all;have vE:=(c.ex v).lt;have H2:ah (WS _ _ _ _):=c;clear c dy c0 c1 c2 c3 c4 c5 K;go_wp2;go_loopw [53] (fun i wz=>∃k:Nat,k<=an/\i=.int I k/\ah (WS X wz W (l++(s.data.toList++(40::Lib.join ((d.take k).map (ag.el m)) [44,32]))))) (fun i _=>an - (intOf i).toNat);case atStart=>exact⟨0,Nat.zero_le _,rfl,H2⟩
  case round=>
   obtain⟨k,j,rfl,lV⟩:=hrel;obtain⟨_,_,_,_,_,_,e6⟩:=(lV.ex v).all;have ar:=(lV.ex v).lt;have C8:=B1.out k (by have:=MA.out;omega);have Kw:k*(ag.Bd m+2)<=4*(ag.Bd m+2):=Nat.mul_le_mul_right _ (by omega);by_cases dQ:k<an
   ·have nU:k<d.length:=(by have:=MA.out;omega);have BA:k*(ag.Bd m+2)<=3*(ag.Bd m+2):=Nat.mul_le_mul_right _ (by omega);have mf:=ae.out (by omega);subst mf;have yU:=af.out (by omega);have HJ:ah (Lib.join ((d.take (k+1)).map (ag.el m)) [44,32]=(if k=0 then[] else Lib.join ((d.take k).map (ag.el m)) [44,32]++[44,32])++ag.el m d[k]):=akx nU;by_cases k0:k=0
    ·subst k0;have g:=HK.out 0 nU wr _ lV (by simp only[iG,iz];omega);have HE:ah (l++(s.data.toList++(40::Lib.join ((d.take 0).map (ag.el m)) [44,32]))++ag.el m d[0]=l++(s.data.toList++(40::Lib.join ((d.take (0+1)).map (ag.el m)) [44,32]))):=by
      show _=_;rw[HJ.out,if_pos rfl];simp[Lib.join]
     rw[HE.out] at g;clear C8 Kw BA;go_wp2_with fail;refine g.mono ?_;rintro F w3 ⟨rfl,E⟩;have H3:=am E;clear E g;go_wp2;go_roundw;case rel=>exact⟨0+1,by omega,by go_num,H3⟩
     case measure=>simp[intOf];omega
    ·have Z0:=lV.str ⟨#[44,32]⟩ (by show _+2<=_;simp only[iG,iz];omega);have kp:0<k:=(by omega);have HE:ah (l++(s.data.toList++(40::Lib.join ((d.take k).map (ag.el m)) [44,32]))++[44,32]++ag.el m d[k]=l++(s.data.toList++(40::Lib.join ((d.take (k+1)).map (ag.el m)) [44,32]))):=(by show _=_;rw[HJ.out,if_neg k0];simp);clear k0;go_wp2_with fail;refine Z0.mono ?_;rintro F w3 ⟨rfl,E,_⟩;have xF:=E;have g:=HK.out k nU w3 _ xF (by simp only[iG,iz,List.length_nil];omega);rw[HE.out] at g;obtain⟨_,_,_,_,_,_,g6⟩:=(xF.ex v).all;have ax:=(xF.ex v).lt;clear E xF Z0 C8 Kw BA e6;go_wp2_with fail;refine g.mono ?_;rintro F w4 ⟨rfl,h4⟩;have H4:=am h4;clear h4 g;go_wp2;go_roundw;case rel=>exact⟨k+1,by omega,by go_num,H4⟩
     case measure=>simp[intOf];omega
   ·have HE:ah (l++(s.data.toList++(40::Lib.join ((d.take k).map (ag.el m)) [44,32]))++[41]=l++(s.data.toList++(40::(Lib.join (d.map (ag.el m)) [44,32]++[41])))):=(by show _=_;rw[List.take_of_length_le (by have:=MA.out;omega)];simp);have Fu:=lV.str ⟨#[41]⟩ (by show _+1<=_;simp only[iG,iz];omega);have ai:=Fu.mono (R':=fun e f=>e=aE (.tuple #[.int I ((⟨#[41]⟩:Bt).size:Int),.nilIface])/\WS X f W (l++(s.data.toList++(40::(Lib.join (d.map (ag.el m)) [44,32]++[41]))))) fun e f ⟨e1,e2,_⟩=>⟨e1,by rw[<-HE.out];exact e2⟩;clear Fu C8 Kw;go_wp2_with fail;refine ai.mono ?_;rintro F w3 ⟨rfl,E⟩;go_wp2
    go_end0
    exact⟨rfl,E⟩
 ·obtain⟨x,rfl⟩:=ag.Nb iE;rw[ag.Wz];have kr:=(ag.RM hn).1;have w:=c x (by simp);have vB:=(ag.Jp m x w).1;cases L with
  | @mk _ _ _ _ _ _ _ lv av N hs u y g j=>
  obtain⟨ao,ab,bC,ac,rfl,r⟩:=y;have jE:=g;have mf:=r.dR (by omega);subst mf;have uz:=r.cap;have vK:=r.mx;have yU:=r.lt (by omega);obtain⟨lo,ay,G8,lc,rfl,_,_,_⟩:=u.sD;obtain⟨c0,c1,c2,c3,c4,c5,K⟩:=(h.ex hx).all;have aK:=(h.ex hx).lt;have HK:ah (∀(a:au) (l:Lu),WS X a W l->l.length+ag.Bd m<=90000000000000->aC prog 117 #[aB (Z (Y W 0 U)),aB (Z (Y ab bC U))] a fun B f=>B=aE (.tuple #[])/\WS X f W (l++ag.el m x)):=fun a l o hl=>G x w a l ab bC N[0] o (RN (Hf r (by omega))) (j 0 (by simp) (by omega)) hl;have xT:ah (∀a l,WS X a W l->aC prog 167 #[O lo Q.length lc] a fun x f=>x=aE (.string ⟨(vz Q).toArray⟩)/\Bl a f):=fun a l o=>akq (u.keeps ⟨o.ff.size,fun b hb _=>o.ff.block b hb⟩) hn;rw[jE] at K uz;have v:ah (iY X b off [.int I 5,.int I p,.int I n,.int I R,.string s,O lo Q.length lc,O (Z (Y ab bC U)) 1 ac]):=(by rw[jE] at hx;exact hx);have S:=h.str ⟨#[114,101,108,101,97,115,101,40]⟩ (by show l.length+8<=_;omega);obtain⟨T,z⟩:=nm (ag.el m x);obtain⟨ad,hL⟩:=nm (vz Q);rw[<-z] at HK vB⊢;rw[<-hL] at xT kr⊢;unfold maxLen at vK;clear h hx u r g j q c hf G w jE hn z hL;go_enter func117,ntmps117;go_wp2_with fail;refine S.mono ?_;rintro F C ⟨rfl,q,_⟩;have fm:=q;obtain⟨_,_,_,_,_,_,d6⟩:=(fm.ex v).all;have C4:=(fm.ex v).lt;have fV:=HK.out C _ fm (by simp only[iG,iz,List.length_nil];omega);clear q fm S c0 c1 c2 c3 c4 c5 K;go_wp2_with fail;refine fV.mono ?_;rintro F P ⟨rfl,c⟩;obtain⟨_,_,_,_,_,e5,_⟩:=(c.ex v).all;have vE:=(c.ex v).lt;have mE:=xT.out P _ c;have H2:=am c;clear c fV d6;go_wp2_with fail;refine mE.mono ?_;rintro F w3 ⟨rfl,aT⟩;have E:=H2.later aT;obtain⟨w4,jV⟩:=nm (w3.alloc (M #[.string ⟨#[32,116,111,32]⟩,.string ⟨ad.toArray⟩,.string ⟨#[41]⟩] 9));have iD:=eS jV;have h4:=E.later iD;have Hs:=aa jV;have rQ:nY [⟨#[32,116,111,32]⟩,⟨ad.toArray⟩,⟨#[41]⟩]=[32,116,111,32]++(ad++[41]):=by simp[nY]
  have dy:=Rb (n:=3) [⟨#[32,116,111,32]⟩,⟨ad.toArray⟩,⟨#[41]⟩] #[.string ⟨#[32,116,111,32]⟩,.string ⟨ad.toArray⟩,.string ⟨#[41]⟩] rfl (by omega) (fun k j=>by
   match k,j with
   | 0,_=>rfl
   | 1,_=>rfl
   | 2,_=>rfl) h4 Hs (by have:=E.lt;omega) (by rw[rQ];simp only[iG,iz,List.length_nil];omega)
  rw[rQ] at dy;have HE:ah (l++[114,101,108,101,97,115,101,40]++T++([32,116,111,32]++(ad++[41]))=l++([114,101,108,101,97,115,101,40]++(T++([32,116,111,32]++(ad++[41]))))):=(by show _=_;simp);rw[HE.out] at dy;clear rQ E h4 Hs iD aT mE e5;go_wp2_with fail;rw[<-jV];clear jV;refine dy.mono ?_;rintro F w5 ⟨rfl,h5⟩;go_wp2
  go_end0
  exact⟨rfl,h5⟩
theorem adI (a:BY X)(b:gU X X.heap.size):∀m t,ag.dZ m t=true->Ps X W m t:=by
 intro m;induction m with
 | zero=>intro t h;cases h
 | succ m c=>exact fun t h=>ani a b c t h
theorem aeq (f:BY w)(g:gU w w.heap.size)(hx:iY w b off V)(h:aS w (fun b=>b<w.heap.size) t V)(hf:ag.dZ 12 t=true):
 aC prog 63 #[aB (Z (Y b off U))] w fun x w'=>x=aE (.string ⟨(ag.el 12 t).toArray⟩)/\Bl w w':=by
 obtain⟨i,a⟩:=nm (w.alloc (M #[aB U,O U 0 0] 157));have j:WS w i w.heap.size []:=⟨by rw[a];exact(Below.refl _ _).alloc (Nat.le_refl _) _,by rw[a];exact Lib.fresh_isBuilder _ _ _⟩;have c:=adI f g 12 t hf i [] b off V j hx h (by rw[ag.arJ];simp);have d:=(ag.Jp 12 t hf).2;obtain⟨T,k⟩:=nm (ag.el 12 t);rw[<-k] at c d⊢;rw[List.nil_append] at c;have l:=am d;clear k d j hx h hf f g;go_enter func63,ntmps63;go_wp2_with fail;rw[<-a];clear a;refine c.mono ?_;rintro x m ⟨rfl,e⟩;have n:=adO w.heap.size w.heap.size T m e.zm l.out;have o:=am e.ff;clear e c;go_wp2_with fail;refine n.mono ?_;rintro x q ⟨rfl,p⟩;go_wp2;go_ret;exact⟨rfl,o.trans p⟩
theorem aek {S:Np}{z0 z1 z2 k:Int}{l:Bt}{m:Oa}{n d5:Nat}{o:Oa}{p d6:Nat}(z:∀a,Bl w a->BY a)(B:aS w S t [.int I z0,.int I z1,.int I z2,.int I k,.string l,O m n d5,O o p d6])(C:gU w w.heap.size):
 aC prog 16 #[.agg #[.int I z0,.int I z1,.int I z2,.int I k,.string l,O m n d5,O o p d6]] w fun x w'=>x=aE (.tuple #[.string ⟨(if ag.dZ 12 t=true then ag.el 12 t else[]).toArray⟩,.int I (if ag.dZ 12 t=true then 0 else 4)])/\Bl w w':=by
 obtain⟨c,f⟩:=nm (w.alloc (M #[.int I z0,.int I z1,.int I z2,.int I k,.string l,O m n d5,O o p d6] 48));have g:=eS f;have K:=uJ f;have s:=aa f
 have hx:iY c w.heap.size 0 [.int I z0,.int I z1,.int I z2,.int I k,.string l,O m n d5,O o p d6]:=⟨by omega,fun j R L=>by
  simp only[World.cell?,s]
  simpa using L⟩
 have u:=(B.keeps (aP.bm g)).mono fun b _ h=>h;have v:gU c c.heap.size:=(C.keeps g.size fun b e=>g.block b e).mono (by omega);have q:=aaZ u v;have E:ah (∀a,Bl c a->ag.dZ 12 t=true->aC prog 63 #[aB (Z (Y w.heap.size 0 U))] a fun x w'=>x=aE (.string ⟨(ag.el 12 t).toArray⟩)/\Bl a w'):=fun a d hf=>
  aeq (z a (g.trans (d.mono (by omega)))) ((v.keeps d.size fun b e=>d.block b e).mono d.size) (hx.keeps d.size (d.block _ hx.lt)) ((u.keeps ⟨d.size,fun b e _=>d.block b e⟩).mono fun b _ h=>h) hf
 have r:=am g;obtain⟨⟨V,W,X,e3,e4,e5,e6⟩,_⟩:(c.cell? (Y w.heap.size 0 U)=Z (.int I z0)/\c.cell? (Y w.heap.size 1 U)=Z (.int I z1)/\c.cell? (Y w.heap.size 2 U)=Z (.int I z2)/\c.cell? (Y w.heap.size 3 U)=Z (.int I k)/\c.cell? (Y w.heap.size 4 U)=Z (.string l)/\c.cell? (Y w.heap.size 5 U)=Z (O m n d5)/\c.cell? (Y w.heap.size 6 U)=Z (O o p d6))/\True:=⟨by refine⟨?_,?_,?_,?_,?_,?_,?_⟩<;>simp[World.cell?,s],trivial⟩;have je:w.heap.size<c.heap.size:=(by omega);clear hx u v g B C s K z;cases hq:ag.dZ 12 t with
 | true=>
  rw[hq] at q;rw[if_pos rfl,if_pos rfl];obtain⟨T,F⟩:=nm (ag.el 12 t);rw[<-F] at E⊢;have N:ah (∀a,Bl c a->aC prog 63 #[aB (Z (Y w.heap.size 0 U))] a fun x w'=>x=aE (.string ⟨T.toArray⟩)/\Bl a w'):=fun a d=>E.out a d hq;clear hq F;go_enter func16,ntmps16;go_wp2_with fail;rw[<-f];clear f;refine q.mono ?_;rintro x G ⟨rfl,i⟩;have P:=N.out G i;have y:=am i;clear i;go_wp2_with fail;refine P.mono ?_;rintro x w2 ⟨rfl,Q⟩;go_wp2
  go_ret2
  have e:=r.trans (y.mono r.size);exact⟨rfl,e.trans (Q.mono e.size)⟩
 | false=>
  rw[hq] at q;rw[if_neg (by simp),if_neg (by simp)];clear hq;go_enter func16,ntmps16;go_wp2_with fail;rw[<-f];clear f;refine q.mono ?_;rintro x G ⟨rfl,i⟩;have y:=am i;clear i;go_wp2
  go_ret2
  exact⟨rfl,r.trans (y.mono r.size)⟩
def L0:Lu:=[49,43,50,42,45,40,97,43,98,41]
def M0:Tr:=.mk 3 3 0 0 (ba [42]) [] [.mk 1 2 2 1 (ba []) [] [],.mk 3 4 0 0 (ba [45]) [] [.mk 3 7 0 0 (ba [43]) [] [.mk 2 6 0 0 (ba [97]) [] [],.mk 2 8 0 0 (ba [98]) [] []]]]
def T0:Tr:=.mk 3 1 0 0 (ba [43]) [] [.mk 1 0 1 1 (ba []) [] [],M0]
theorem afL:ag.CE L0=.ok T0 []:=by kernel_rfl
theorem Tk:ag.dZ 12 T0=true:=by kernel_rfl
theorem aht:ag.CI L0=.ok T0 []:=by
 unfold ag.CI;rw[afL];show(if ag.dZ 12 T0=true then aA.ok T0 [] else .no 2 0)=_;rw[if_pos Tk]
theorem akG:Lib.itoa 1=[49]:=by
 unfold Lib.itoa;rw[if_neg (by decide)];show Lib.decDigits 1=_;rw[Lib.decDigits,dif_pos (by decide)];rfl
theorem akF:Lib.itoa 2=[50]:=by
 unfold Lib.itoa;rw[if_neg (by decide)];show Lib.decDigits 2=_;rw[Lib.decDigits,dif_pos (by decide)];rfl
theorem adW:ag.el 12 T0=[49,32,43,32,50,32,42,32,45,40,97,32,43,32,98,41]:=by
 have e:ag.el 12 T0=Lib.itoa 1++(32::([43]++(32::(Lib.itoa 2++(32::([42]++(32::([45]++(40::(([97]++(32::([43]++(32::[98]))))++[41])))))))))):=(by kernel_rfl);rw[e,akG,akF];rfl
theorem aej (Q:∀a,Bl w a->BY a)(C:gU w w.heap.size):aC prog 6 #[] w fun x w'=>x=aE (.bool true)/\Bl w w':=by
 have E:=ahv ⟨#[49,43,50,42,45,40,97,43,98,41]⟩ w (by decide) C;rw[show ag.CI (⟨#[49,43,50,42,45,40,97,43,98,41]⟩:Bt).data.toList=.ok T0 [] from aht] at E;have HI:ah (∀a,Bl w a->BY a):=Q;have HL:ah (∀a,Bl w a->gU a w.heap.size):=fun a m=>C.keeps m.size fun b hb=>m.block b hb;clear Q C;go_enter func6,ntmps6;go_wp2_with fail;refine E.mono ?_;rintro x d ⟨F,⟨t,i,n,o,p,r,s,u,v,d5,f,g,d6,rfl,R⟩|⟨c,q,i,_⟩⟩
 ·injection i with i _
  subst i;obtain⟨e,j⟩:∃e,e=(d.alloc (M #[.int I n,.int I o,.int I p,.int I r,.string s,O u v d5,O f g d6] 48)).alloc (M #[.int I 0,.int I 0] 30):=⟨_,rfl⟩;have G:Bl d e:=(by rw[j];exact((Below.refl _ _).alloc (Nat.le_refl _) _).alloc (by simp) _);have h:Below _ _ _:=F.trans (G.mono F.size);have K:=R.keeps (aP.bm G);have S:e.heap[d.heap.size]? =Z (M #[.int I n,.int I o,.int I p,.int I r,.string s,O u v d5,O f g d6] 48):=(by rw[j];exact cR (cu _ _ _ rfl));have T:e.heap[d.heap.size+1]? =Z (M #[.int I 0,.int I 0] 30):=(by rw[j];exact cu _ _ _ (by simp));have L:=aek (fun a m=>HI.out a (h.trans (m.mono h.size))) K ((HL.out e h).mono h.size);rw[if_pos Tk,if_pos Tk,adW] at L;have HT:ah (aS _ (fun b=>w.heap.size<=b) _ [.int I n,.int I o,.int I p,.int I r,.string s,O u v d5,O f g d6]):=K;have V:ah (Below _ _ _):=h;have y:ah (e.heap[d.heap.size]? =Z (M #[.int I n,.int I o,.int I p,.int I r,.string s,O u v d5,O f g d6] 48)/\e.heap[d.heap.size+1]? =Z (M #[.int I 0,.int I 0] 30)):=⟨S,T⟩;clear S T K R G F h E;go_wp2_with fail;rw[<-j];clear j;refine L.mono ?_;rintro x z ⟨rfl,k⟩;have W:=HT.keeps (aP.bm k);have N:=(k.block _ (J y.1)).trans y.1;have P:=(k.block _ (J y.2)).trans y.2;have kC:ah (Below _ _ _):=V.trans (k.mono V.size);have n1:=J N;have n2:=J P;obtain⟨_,x6⟩:True/\z.cell? (Y d.heap.size 6 U)=Z (O f g d6):=⟨trivial,by simp[World.cell?,N]⟩;have y0:z.cell? (Y (d.heap.size+1) 0 U)=Z (.int I 0):=(by simp[World.cell?,P]);obtain⟨ab,l,kF,ad,af,k4,iE⟩:∃ab l,f=Z (Y ab l U)/\g=2/\2<=d6/\z.cell? (Y ab (l+7+4) U)=Z (.string (ba [42]))/\ab<z.heap.size:=by
   cases W with
   | mk hs ef ae aG hk=>
    obtain⟨ao,ab,l,ac,hv,B⟩:=ae;injection hv with e1 e2 e3
    rename_i X;have h2:X.length=2:=aG;have et:=hk 1 (by simp) (by omega)
    have dA:=B.cell 1 (by omega) 4 (.string (ba [42])) (by
     generalize X[1]=cs1 at et
     cases et;rfl)
    refine⟨ab,l,by rw[e1];exact B.dR (by omega),by omega,by have:=B.cap;omega,dA,B.lt (by omega)⟩
  subst kF ad;have ai:(ba [42]).toList=[42]:=fB _;clear W N P k L;go_wp2;go_ret;exact⟨rfl,kC.out⟩
 ·cases i
open ag (aV cV ii dV bL Tok Tr Po aA nx bI aO gg ba)
theorem ahc:II:=fun s n w a h=>aeB s n w (by omega) (by rw[Lib.parseIntB_64,Lib.atoiAll_short _ (by simpa using a),h];rfl)
def Yc:bL:=⟨[],[],[],[]⟩
def GX:aA bL->Int×Int×bL
 | .ok t _=>(0,0,t)
 | .no c q=>(c,(q:Int),Yc)
theorem ahg (w:au)(S:Np):jj w S Yc [O U 0 0,O U 0 0,O U 0 0,O U 0 0]:=by
 refine⟨_,_,_,_,rfl,⟨gj.none _ _ _ _,fun s h=>by cases h⟩,⟨[],gj.none _ _ _ _,rfl,fun i h=>by cases h⟩,⟨[],gj.none _ _ _ _,rfl,fun i h=>by cases h⟩,⟨[],gj.none _ _ _ _,rfl,fun i h=>by cases h⟩⟩
theorem aaS {w':au}{a:aA bL}{x:Ending}(h:qL w a x w'):Bl w w'/\∃(d:Oa) (e d0:Nat) (f:Oa) (g d1:Nat) (i:Oa) (m2 d2:Nat) (j:Oa) (k d3:Nat),x=aE (.tuple #[.agg #[O d e d0,O f g d1,O i m2 d2,O j k d3],.agg #[.int I (GX a).1,.int I (GX a).2.1]])/\jj w' (fun b=>w.heap.size<=b) (GX a).2.2 [O d e d0,O f g d1,O i m2 d2,O j k d3]:=by
 obtain⟨m,⟨t,l,d,e,d0,f,g,d1,i,m2,d2,j,k,d3,hx,n⟩|⟨c,q,l,hx⟩⟩:=h
 ·subst l;exact⟨m,d,e,d0,f,g,d1,i,m2,d2,j,k,d3,hx,n⟩
 ·subst l;exact⟨m,U,0,0,U,0,0,U,0,0,U,0,0,hx,ahg _ _⟩
theorem aki (s:Bt)(w:au)(hs:s.size<=140737488351232)(hI:∀a,Bl w a->BY a)(d:gU w w.heap.size)(hk:FX w):
 aC prog 3 #[.string s] w fun e w'=>e=aE (.bool true)/\Bl w w':=by
 obtain⟨h,ad⟩:=nm ((GX (ag.vw s.data.toList)).1);obtain⟨i,ae⟩:=nm ((GX (ag.vw s.data.toList)).2.1);obtain⟨V,ZN⟩:=nm ((GX (ag.vw s.data.toList)).2.2);have qh:s.size<=maxLen:=(by unfold maxLen;omega);have ai:ah (∀a,Bl w a->gU a a.heap.size):=fun a c=>(d.keeps c.size fun b k=>c.block b k).mono c.size;have sg:=am hk;have Vz:=am hI;have HEq:=am (aj ad (aj ae ZN));have h1:=ahu s w qh d;clear ad ae ZN hk hI d;go_enter func3,ntmps3;go_wp2_with fail;refine h1.mono ?_;intro x f l;obtain⟨aJ,m,n,d0,o,p,d1,q,r,d2,t,u,d3,rfl,uq⟩:=aaS l;rw[<-HEq.1,<-HEq.2.1];rw[<-HEq.2.2] at uq;obtain⟨W,v⟩:=nm ((f.alloc (M #[O m n d0,O o p d1,O q r d2,O t u d3] 27)).alloc (M #[.int I h,.int I i] 30));have SE:=lU v;have SR:=ab v;have S8:=ac v;have FB:=bu aJ SE;have h3:=afM s W hs (sg.later FB) ahc;have cX:=am FB;have HX:ah (∀a,Bl W a->a.heap[f.heap.size]? =Z (M #[O m n d0,O o p d1,O q r d2,O t u d3] 27)/\a.heap[f.heap.size+1]? =Z (M #[.int I h,.int I i] 30)/\jj a (fun b=>b<W.heap.size) V [O m n d0,O o p d1,O q r d2,O t u d3]):=fun a c=>
  ⟨(c.block _ (J SR)).trans SR,(c.block _ (J S8)).trans S8,jj.keeps ((jj.keeps uq (aP.bm SE)).mono fun b _ d=>d) ⟨c.size,fun b k _=>c.block b k⟩⟩
 clear h1 l aJ uq SE SR S8 FB;go_wp2_with fail;rw[<-v];clear v;refine h3.mono ?_;intro x g l;obtain⟨aT,y,n0,z,B,C,E,F,G,K,L,N,P,rfl,Ah⟩:=aaS l;rw[<-HEq.1,<-HEq.2.1];rw[<-HEq.2.2] at Ah;obtain⟨j,Q⟩:=nm ((g.alloc (M #[O y n0 z,O B C E,O F G K,O L N P] 27)).alloc (M #[.int I h,.int I i] 30));have SD:=lU Q;have SQ:=ab Q;have S7:=ac Q;have Ta:=bu aT SD;have R:=cX.trans (Ta.mono cX.size);have h5:=aej (w:=j) (fun a c=>Vz.out a (R.trans (c.mono R.size))) (ai.out j R);have kC:=am Ta;have xR:=am R;have HY:ah (∀a,Bl j a->a.heap[g.heap.size]? =Z (M #[O y n0 z,O B C E,O F G K,O L N P] 27)/\a.heap[g.heap.size+1]? =Z (M #[.int I h,.int I i] 30)/\jj a (fun b=>b<j.heap.size) V [O y n0 z,O B C E,O F G K,O L N P]):=fun a c=>
  ⟨(c.block _ (J SQ)).trans SQ,(c.block _ (J S7)).trans S7,jj.keeps ((jj.keeps Ah (aP.bm SD)).mono fun b _ d=>d) ⟨c.size,fun b k _=>c.block b k⟩⟩
 clear h3 l aT Ah SD SQ S7 Ta R;go_wp2_with fail;rw[<-Q];clear Q;refine h5.mono ?_;rintro x w5 ⟨rfl,jY⟩
 have Cn:ah (∀a,Bl j a→(f.heap.size<a.heap.size∧f.heap.size+1<a.heap.size∧g.heap.size<a.heap.size∧g.heap.size+1<a.heap.size)∧a.heap[f.heap.size]? =Z (M #[O m n d0,O o p d1,O q r d2,O t u d3] 27)∧a.heap[f.heap.size+1]? =Z (M #[.int I h,.int I i] 30)∧a.heap[g.heap.size]? =Z (M #[O y n0 z,O B C E,O F G K,O L N P] 27)∧a.heap[g.heap.size+1]? =Z (M #[.int I h,.int I i] 30)∧
  jj a (fun b=>b<W.heap.size) V [O m n d0,O o p d1,O q r d2,O t u d3]∧jj a (fun b=>b<j.heap.size) V [O y n0 z,O B C E,O F G K,O L N P]):=by
  intro a c;have q1:=kC.trans (c.mono kC.size);obtain⟨a1,a2,a3⟩:=HX.out a q1;obtain⟨c1,c2,c3⟩:=HY.out a c;exact⟨⟨J a1,J a2,J c1,J c2⟩,a1,a2,c1,c2,a3,c3⟩
 have uV:=am jY;clear h5 jY;obtain⟨⟨l1,l2,l4,l5⟩,S,X,T,k5,t1,t2⟩:=Cn.out w5 uV.out;have ee:=afk t1 t2;obtain⟨⟨p0,p1,p2,p3⟩,_⟩:=kM S;obtain⟨⟨r0,r1,r2,r3⟩,_⟩:=kM T;obtain⟨f0,f1⟩:=qw X;obtain⟨i0,i1⟩:=qw k5;clear S X T k5 t1 t2;go_wp2_with fail;refine ee.mono ?_;rintro x w6 ⟨rfl,ra⟩;have af:=bt uV ra;clear ee ra p0 p1 p2 p3 r0 r1 r2 r3 f0 f1 i0 i1 l1 l2 l4 l5;obtain⟨⟨l1,l2,l4,l5⟩,S,X,T,k5,t1,t2⟩:=Cn.out w6 af.out;have ZY:=agQ t1 t2;obtain⟨⟨p0,p1,p2,p3⟩,_⟩:=kM S;obtain⟨⟨r0,r1,r2,r3⟩,_⟩:=kM T;clear S X T k5 t1 t2;go_wp2_with fail;refine ZY.mono ?_;rintro x w7 ⟨rfl,gv⟩;have V6:=bt af gv;clear ZY gv p0 p1 p2 p3 r0 r1 r2 r3 l1 l2 l4 l5;go_wp2;go_ret;exact⟨rfl,xR.trans (V6.mono xR.size)⟩
section
open Go.RowKit Go.ChangeShapes Go.WideShapes Go.Deep
theorem aoP:prog.cellsOf 9=1:=by kernel_rfl
theorem aoO:prog.cellsOf 22=1:=by kernel_rfl
def A1 {H:Type}(L:List Bt):DataW H:=.slice (L.map fun s=>.lit (.string s.data.toList)) []
theorem aez {q:Type}{enc:TypeId×Value->q}{B C:Nat}{E:Nat->Bool}{F:Bool}{v:Value}{a:List Bt}{p:List MemPlace}(h:DataW.trod enc prog w B E F C 22 [v]=Z (A1 a,p)):
 ∃r b off c,v=O r a.length c/\Strs w r b off a:=by
 rcases open_slice1 underlying22 aoP h with⟨_,hx⟩|⟨t,len,G,m,n,S,D,T,u,_,V,_,K,hx,L⟩
 ·cases hx
 ·simp only[List.cons.injEq,and_true] at u;injection hx with hx _
  injection hx with hx _
  have N:len=a.length:=(by have:=congrArg List.length hx;simp at this;omega);have W:len<=m:=(by rw[K];split<;>omega);subst N;have f:∀i (g:i<a.length),w.cell? (t.add i)=Z (.string a[i]):=by
   intro i g;obtain⟨P,Q⟩:=L i (by omega);obtain⟨s,x,l,_⟩:=DataW.trod_string underlying9 Q;simp only[List.cons.injEq,and_true] at x;injection l with l _
   have e:(a.map fun s=>(DataW.lit (.string s.data.toList):DataW q))[i]? =((List.range a.length).map D)[i]? :=(by rw[hx]);simp only[List.getElem?_map,List.getElem?_eq_getElem g,Option.map_some,List.getElem?_range g,Option.some.injEq] at e;rw[l] at e;injection e with e
   injection e with e
   have:s=a[i]:=ByteArray.ext (Array.ext' e.symm);rw[P,x,this]
  obtain⟨b,off,o⟩:=t;have y:0<a.length->o=U:=fun d=>(by simpa[Addr.add] using World.cell?_spot (f 0 d));have z:∀j,0<a.length->(⟨b,off,o⟩:Addr).add j=(Y b (off+j) U):=fun j d=>(by rw[y d];simp[Addr.add]);refine⟨Z ⟨b,off,o⟩,b,off,G,u,⟨fun d=>by rw[y d],fun k R=> ?_,fun d=> ?_⟩⟩
  ·have:=f k R;rwa [z k (by omega)] at this
  ·have:=f 0 d;rw[z 0 d] at this;exact World.block_lt_of_cell? w _ this
def YI {H:Type}:DataW H:=.agg [A1 (lY 0),A1 (lY 1),A1 (lY 2),A1 (lY 3),A1 (lY 4)]
theorem aoR:prog.cellsOf 228=5:=by kernel_rfl
theorem YH:prog.globalNamed "cloister/tree.levels"=Z 2:=by kernel_rfl
theorem ajz:(prog.globals[2]?).map (·.type)=Z 228:=by kernel_rfl
theorem ajt (h:Lib.VarReads prog w "cloister/tree.levels" YI):gU w w.heap.size:=by
 obtain⟨g,t,V,F,p,u,v,a,x⟩:=h;obtain rfl:2=g:=Option.some.inj (YH.symm.trans u);obtain rfl:228=t:=Option.some.inj (ajz.symm.trans v);obtain⟨R,fz,k⟩:∃R fz,w.heap[2]? =Z (M V R fz):=by
  unfold World.var? at a;rw[YH,Option.bind_some] at a;split at a
  ·rename_i G R fz y;simp only[Option.some.injEq] at a;subst a;exact⟨R,fz,y⟩
  ·cases a
 have l:=J k;obtain⟨d,m,_,hx,z,K,n⟩:=DataW.trod_array underlying228 x;rw[aoR] at z;injection hx with hx _
 injection hx with hx
 rw[aoO] at n;refine⟨l,l,fun i j=> ?_⟩;have f:=n i j;have o:d[i]? =Z (d[i]'(by omega)):=List.getElem?_eq_getElem (by omega);rw[o] at f;have q:i<V.toList.length:=(by omega);have e:(V.toList.drop (i*1)).take 1=[V.toList[i]]:=by
  rw[Nat.mul_one,List.drop_eq_getElem_cons q];rfl
 rw[e] at f;have B:(d[i]'(by omega)).1=A1 (lY i):=by
  have r:(d.map (·.1))[i]? =Z (A1 (lY i)):=by
   rw[<-hx]
   match i,j with
   | 0,_=>rfl
   | 1,_=>rfl
   | 2,_=>rfl
   | 3,_=>rfl
   | 4,_=>rfl
  rw[List.getElem?_map,o] at r;simpa using r
 rw[show(d[i]'(by omega))=(A1 (lY i),(d[i]'(by omega)).2) from Prod.ext B rfl] at f;obtain⟨C,b,off,c,E,s⟩:=aez f
 refine⟨C,b,off,c,?_,s,s.lt (by
  match i,j with
  | 0,_=>decide
  | 1,_=>decide
  | 2,_=>decide
  | 3,_=>decide
  | 4,_=>decide)⟩
 rw[<-E];simp only[World.cell?,k];simp[Array.getElem?_eq_getElem (show i<V.size by simpa using q)]
theorem XA:prog.globalNamed "internal/strconv.uint64pow10"=Z 8:=by kernel_rfl
theorem akE (h:Lib.TabIs prog w "internal/strconv.uint64pow10" .u64 Lib.pow10Tab):∀b,Bl w b->BY b:=by
 intro b c n d j k e;have f:8<w.heap.size:=by
  have a:=h;unfold Lib.TabIs World.var? at a;rw[XA,Option.bind_some] at a;split at a
  ·rename_i g;exact J g
  ·cases a
 have i:Lib.TabIs prog d "internal/strconv.uint64pow10" .u64 Lib.pow10Tab:=var?_below (c.trans (e.mono c.size)) XA f h;exact strconv_Itoa n d (by omega) (by omega) i
end
end Go.Proofs.YtoiiahpdbcokaaaGreatDoor
