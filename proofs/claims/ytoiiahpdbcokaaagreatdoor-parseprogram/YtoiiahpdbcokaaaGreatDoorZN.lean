/- tree.Check's looker at the expression of a statement. And more of the same. -/
import Derived.Test.YtoiiahpdbcokaaaGreatDoorZM
namespace Go.Proofs.YtoiiahpdbcokaaaGreatDoor
open Go.Value renaming int -> A, slice -> O, string -> H, pointer -> aB, bool -> az
open Go.IntKind renaming i64 -> I
open _root_.Option renaming none -> U, some -> Z
open Go.Addr renaming mk -> Y
open Go.Obj renaming cells -> M
open Go renaming lt_of_block -> J, World -> au, Calls -> aC
open Go.Ending renaming returned -> aE, returned -> jS
open Go.World renaming cell? -> aN, cell?_of_block -> en
open _root_.Bool renaming false -> ak, true -> ap
open _root_.List renaming getElem_mem -> fD
open Go.RowKit renaming Hid -> ah
open _root_.Go.Proofs.Tryz
set_option maxRecDepth 100000
set_option maxHeartbeats 8000000
open Go.RowKit
open ag (Tok Po Tr nx bI aO ba aA aV cV ii dV bL)
variable {k p z0 z1 z2 G:Int} {V W w E:au} {B B2 b d5 d6 m Q N n off:Nat} {e:Tr} {C:Lv} {v:Value} {o s L:Bt} {l:List Po} {a:List aV} {R X:Oa} {r ts:List Tok} {S:Np} {ks:List Int}
noncomputable def dB (p:Prop):Bool:=@decide p (Classical.propDecidable p)
theorem nE {p:Prop}(h:p):dB p=ap:=by unfold dB;exact @decide_eq_true p (Classical.propDecidable p) h
theorem nF {p:Prop}(h:¬p):dB p=ak:=by unfold dB;exact @decide_eq_false p (Classical.propDecidable p) h
theorem lk0 {K:List PK}(h:E.heap.size<=B)(i:gU E E.heap.size)(g:Bl E W)(hS:bV W B K)(j:gP E K 0)(k:iY E b off C)(l:aS E (fun b=>b<E.heap.size) e C)(a:au)(d:Bl W a):
 aC prog 116 #[.agg #[.map (Z B),.map (Z B2)],aB (Z (Y b off U)),A I 0] a fun x f=>∃c,x=aE (az (ag.dZ 12 e))/\bV f B c/\a.grownBy f (Z B)/\(ag.dZ 12 e=ap->gP E c 0):=by
 have m:=hS.keeps (d.block _ hS.lt) fun p n=>d.block _ (by obtain⟨C,e,o⟩:=hS.pl n;exact J o);refine(Yx (B2:=B2) h i 11 0 rfl e a b off C K (g.trans (d.mono g.size)) m j k l).mono ?_;rintro x f ⟨c,q,r,s,_,t⟩;exact⟨c,q,r,s,t⟩
theorem anp {d e f g i k y0 y1 y2 y3 y4 y5 y6 u:Value}(h:iY w b off [d,e,f,g,i,k,y0,y1,y2,y3,y4,y5,y6,u,v]):iY w b (off+6) [y0,y1,y2,y3,y4,y5,y6]:=
 ⟨h.lt,fun j c a=>by
   match j,a with
   | 0,a=>exact h.cell 6 c a
   | 1,a=>exact h.cell 7 c a
   | 2,a=>exact h.cell 8 c a
   | 3,a=>exact h.cell 9 c a
   | 4,a=>exact h.cell 10 c a
   | 5,a=>exact h.cell 11 c a
   | 6,a=>exact h.cell 12 c a
   | j+7,a=>simp at a⟩
theorem ahE {K:List PK}{d:Bool}{c:List aV}{lo:Oa}{ln lc:Nat}{av bv:Value}(hB:E.heap.size<=B)(er:gU E E.heap.size)(hX:ag.mj (m+1) (.mk k p s o d l e a c))(S:Bl E W)(hS:bV W B K)(hI:gP E K 0)
 (w:iY E b off [A I k,A I p,H s,H o,az d,O lo ln lc,A I z0,A I z1,A I z2,A I G,H L,O R Q d5,O X N d6,av,bv]) (he:aS E (fun b=>b<E.heap.size) e [A I z0,A I z1,A I z2,A I G,H L,O R Q d5,O X N d6]):
 aC prog 186 #[.agg #[.map (Z B),.map (Z B2)],aB (Z (Y b off U))] W fun x u=>∃f,x=aE (az (dB (k≠6->ag.dZ 12 e=ap)))/\bV u B f/\W.grownBy u (Z B)/\((k≠6->ag.dZ 12 e=ap)->gP E f 0):=by
 have ai:=hS.lt;have i:=w.keeps S.size (S.block _ w.lt);have aK:=i.lt;obtain⟨g,v⟩:=nm (W.alloc (M #[.map (Z B),.map (Z B2)] 97));have y:=eS v;have fV:=aa v;have af:ah (∀z,Bl W z->aC prog 116 #[.agg #[.map (Z B),.map (Z B2)],aB (Z (Y b (off+6) U)),A I 0] z fun x u=>∃f,x=aE (az (ag.dZ 12 e))/\bV u B f/\z.grownBy u (Z B)/\(ag.dZ 12 e=ap->gP E f 0)):=fun z h1=>lk0 hB er S hS hI (anp w) he z h1;have j:=i.keeps y.size (y.block _ aK);have eZ:b<g.heap.size:=j.lt;have c0:g.cell? (Y b off U)=Z (A I k):=j.cell 0 _ rfl;have y0:g.cell? (Y b (off+6) U)=Z (A I z0):=j.cell 6 _ rfl;have y1:g.cell? (Y b (off+6+1) U)=Z (A I z1):=j.cell 7 _ rfl;have y2:g.cell? (Y b (off+6+2) U)=Z (A I z2):=j.cell 8 _ rfl;have y3:g.cell? (Y b (off+6+3) U)=Z (A I G):=j.cell 9 _ rfl;have y4:g.cell? (Y b (off+6+4) U)=Z (H L):=j.cell 10 _ rfl;have y5:g.cell? (Y b (off+6+5) U)=Z (O R Q d5):=j.cell 11 _ rfl;have y6:g.cell? (Y b (off+6+6) U)=Z (O X N d6):=j.cell 12 _ rfl;have ao:W.cell? (Y b off U)=Z (A I k):=i.cell 0 _ rfl;have ar:W.cell? (Y b (off+6) U)=Z (A I z0):=i.cell 6 _ rfl;have ax:W.cell? (Y b (off+6+1) U)=Z (A I z1):=i.cell 7 _ rfl;have ay:W.cell? (Y b (off+6+2) U)=Z (A I z2):=i.cell 8 _ rfl;have aG:W.cell? (Y b (off+6+3) U)=Z (A I G):=i.cell 9 _ rfl;have Wq:W.cell? (Y b (off+6+4) U)=Z (H L):=i.cell 10 _ rfl;have aH:W.cell? (Y b (off+6+5) U)=Z (O R Q d5):=i.cell 11 _ rfl;have aI:W.cell? (Y b (off+6+6) U)=Z (O X N d6):=i.cell 12 _ rfl;have kj:ah (Bl W g):=y;obtain⟨l0,l1⟩:=qw fV;have kJ:=J fV;have tR:W.heap.size≠B:=(by omega);have PL:ah (bV W B K/\gP E K 0):=⟨hS,hI⟩;have nV:b≠B:=(by have:=w.lt;omega);by_cases T:k=6
 ·subst T;obtain⟨rfl⟩:e=ag.qR:=(by rcases QD hX with⟨_,_,_,h⟩|⟨h,_⟩|⟨h,_⟩|⟨h,_⟩<;>first | exact h | omega);cases he with
  | mk h1 h2 h3 h4 h5=>
   obtain⟨q5,e5,h6⟩:=h2.val;obtain⟨q6,e6,h7⟩:=h3.val;rw[h4] at h7;simp only[List.length_nil,Value.slice.injEq] at h6 h7;obtain⟨rfl,rfl,rfl⟩:=h6;obtain⟨rfl,rfl,rfl⟩:=h7;have aM:W.cell? (Y b (off+6+4) U)=Z (H ⟨#[]⟩):=Wq;have HZ:=afi R d5 X d6 0 g;clear hX hS hI w i j h1 h2 h3 h4 h5 S er hB y fV y4 Wq;go_enter func186,ntmps186;go_wp2_with fail;rw[<-v];refine HZ.mono ?_;rintro x z ⟨rfl,aJ⟩;have cX:ah (Bl W z):=kj.trans (aJ.mono kj.size);clear aJ v;go_wp2;go_ret;refine⟨K,congrArg (fun b=>jS (Value.bool b)) (nE (fun h=>absurd rfl h)).symm,?_,dN _ cX.out,fun _=>PL.2⟩;exact PL.1.keeps (cX.block _ PL.1.lt) fun p hp=>cX.block _ (by obtain⟨C,e,hh⟩:=PL.1.pl hp;exact J hh)
 ·have b6:(k==6)=ak:=(by simp[T]);have ad:ah (k≠6):=T;have OM:=af.out g.drew (Ds y 1);obtain⟨t,F⟩:∃t,ag.dZ 12 e=t:=⟨_,rfl⟩;have ae:ah (ag.dZ 12 e=t):=F;rw[F] at OM;have Id:dB (k≠6->ag.dZ 12 e=ap)=t:=by
   cases t with
   | true=>exact nE fun _=>F
   | false=>exact nF fun h=>by rw[h T] at F;cases F
  rw[Id];have HC:ah (aC prog 116 #[.agg #[.map (Z B),.map (Z B2)],aB (Z (Y b (off+6) U)),A I 0] g.drew fun x u=>∃f,x=aE (az t)/\bV u B f/\g.drew.grownBy u (Z B)/\(t=ap->gP E f 0)):=OM;by_cases kt:k=7
  ·have cL:z0=4:=by
    rcases QD hX with⟨h,_⟩|⟨h,_⟩|⟨h,_⟩|⟨_,_,_,_,q,s',a',rfl⟩
    ·omega
    ·omega
    ·omega
    ·cases he;rfl
   subst cL;have b7:(k==7)=ap:=(by simp[kt]);clear hX hS hI w i j S er hB y fV T kt F Id OM he;go_enter func186,ntmps186;go_wp2;rw[<-v];clear v
   go_region_held3 (fun V=>V.cell? (Y W.heap.size 0 U)=Z (.map (Z B))/\V.cell? (Y W.heap.size 1 U)=Z (.map (Z B2))/\V.cell? (Y b (off+6) U)=Z (A I 4)) (go_keep)
    (first
      |(go_at_call 116;refine(HC.out).mono ?_;rintro x n ⟨f,rfl,ec,r,lq⟩;have P:ah (bV n B f∧g.drew.grownBy n (Z B)∧(t=ap→gP E f 0)):=⟨ec,r,lq⟩;have q0:n.cell? (Y W.heap.size 0 U)=Z (.map (Z B)):=(en (a:=(Y W.heap.size 0 U)) (r.block W.heap.size kJ (by simp[tR]))).trans l0;have q1:n.cell? (Y W.heap.size 1 U)=Z (.map (Z B2)):=(en (a:=(Y W.heap.size 1 U)) (r.block W.heap.size kJ (by simp[tR]))).trans l1;have q2:n.cell? (Y b (off+6) U)=Z (A I 4):=(en (a:=(Y b (off+6) U)) (r.block b eZ (by simp[nV]))).trans y0;clear ec r lq))
   all_goals go_wp2
   all_goals go_ret
   exact⟨f,rfl,P.1,OT kj.out P.2.1,fun h=>P.2.2 (by rw[<-ae.out];exact h ad.out)⟩
  ·have b7:(k==7)=ak:=(by simp[kt]);clear hX hS hI w i j S er hB y fV T kt F Id OM he;go_enter func186,ntmps186;go_wp2;rw[<-v];clear v
   go_region_held3 (fun V=>V.cell? (Y W.heap.size 0 U)=Z (.map (Z B))/\V.cell? (Y W.heap.size 1 U)=Z (.map (Z B2))) (go_keep)
    (first
      |(go_at_call 116;refine(HC.out).mono ?_;rintro x n ⟨f,rfl,ec,r,lq⟩;have P:ah (bV n B f∧g.drew.grownBy n (Z B)∧(t=ap→gP E f 0)):=⟨ec,r,lq⟩;have q0:n.cell? (Y W.heap.size 0 U)=Z (.map (Z B)):=(en (a:=(Y W.heap.size 0 U)) (r.block W.heap.size kJ (by simp[tR]))).trans l0;have q1:n.cell? (Y W.heap.size 1 U)=Z (.map (Z B2)):=(en (a:=(Y W.heap.size 1 U)) (r.block W.heap.size kJ (by simp[tR]))).trans l1;clear ec r lq))
   all_goals go_wp2
   all_goals go_ret
   exact⟨f,rfl,P.1,OT kj.out P.2.1,fun h=>P.2.2 (by rw[<-ae.out];exact h ad.out)⟩
namespace ag
def xZ (ts:List Tok):Prop:=qM ts/\ts.length<=100000
theorem xZ.dn {us:List Tok}(h:xZ ts)(a:us<:+ts):xZ us:=⟨h.1.dn a,Nat.le_trans a.length_le h.2⟩
def rk {α:Type}(F:α->Prop)(P:List Tok->aA α):Prop:=∀ts a r,xZ ts->P ts=.ok a r->F a
def DE (t:Tr):Prop:=gI t<=100000
theorem Iq (e k:Nat):rk DE (fp e k):=fun ts a r hf h=>by
 have b:=abo e k ts a r h;have c:=hf.2;show gI a<=100000;omega
theorem RL (e:Nat):rk (fun l=>gp l=ap) (fX e):=fun ts l r hf h=>JW e ts l r hf.1 h
theorem xf (e:Nat):rk (fun s=>dG s=ap) (bR e):=by
 intro ts a r hf h;unfold bR at h;split at h
 ·rename_i b;cases h;exact hf.1.name b
 ·cases h
theorem ajl {f:Type}{d:f->Prop}{e:Nat}{s:Lu}{P:List Tok->aA f}(hS:du P)(j:rk d P):∀m acc ts l r,xZ ts->(∀a∈acc,d a)->dU e s P m acc ts=.ok l r->(∀a∈l,d a)/\l.length<=acc.length+m:=by
 intro m;induction m with
 | zero=>
  intro acc ts l r hf c h;unfold dU at h;split at h
  ·cases h
  ·cases h;exact⟨c,Nat.le_refl _⟩
 | succ m k=>
  intro acc ts l r hf c h;unfold dU at h;split at h
  ·obtain⟨b,q,g,n⟩:=aQ h;have o:=j _ _ _ (hf.dn (jJ ts)) g
   have i:=k (acc++[b]) _ _ _ ((hf.dn (jJ ts)).dn (hS _ _ _ g)) (fun a hm=>by
    rcases List.mem_append.1 hm with hm | hm
    ·exact c a hm
    ·rw[List.mem_singleton.1 hm];exact o) n
   refine⟨i.1,?_⟩;have p:=i.2;simp at p;omega
  ·cases h;exact⟨c,by omega⟩
theorem YC {c:Type}{d:c->Prop}{e:Nat}{s:Lu}(hm:0<m){P:List Tok->aA c}(hS:du P)(f:rk d P){l:List c}(hf:xZ ts)(h:dT e s m P ts=.ok l r):(∀a∈l,d a)/\l.length<=m:=by
 obtain⟨b,p,g,j⟩:=aQ h;have k:=f _ _ _ hf g;have i:=ajl hS f _ _ _ _ _ (hf.dn (hS _ _ _ g)) (fun a n=>by rw[List.mem_singleton.1 n];exact k) j;refine⟨i.1,?_⟩;have o:=i.2;simp at o;omega
theorem anF {d:Type}{g:d->Prop}{e:Nat}{o s c:Lu}(hm:0<m){P:List Tok->aA d}(hS:du P)(i:rk g P){l:List d}(hf:xZ ts)(h:ei e o s c m P ts=.ok l r):(∀a∈l,g a)/\l.length<=m:=by
 obtain⟨b,t,j,k⟩:=aQ h;obtain⟨u,v,f,n⟩:=aQ k;obtain⟨w,x,y,p⟩:=aQ n;cases p;split at f
 ·cases f;exact⟨(fun a q=>by cases q),by simp⟩
 ·exact YC hm hS i (hf.dn (gZ _ _ _ _ _ j)) f
inductive rZ:Nat->aV->Prop
 | EP {m:Nat} {p:Int} {s:Bt} {d:Bool} {l:List Po} {e:Tr} (hs:dG s=true) (hl:gp l=true) (hd:d=false->l=[]) (he:DE e):rZ (m+1) (.mk 1 p s (ba []) d l e [] [])
 | Eu {m:Nat} {p:Int} {s:Bt} {e:Tr} (hs:dG s=true) (he:DE e):rZ (m+1) (.mk 2 p s (ba []) false [] e [] [])
 | Be {m:Nat} {p:Int} {e:Tr} {a b:List aV} (he:DE e) (hm:m≠0) (ha:a.length<=20) (hb:b.length<=20) (ka:∀x∈a,rZ m x) (kb:∀x∈b,rZ m x):rZ (m+1) (.mk 3 p (ba []) (ba []) false [] e a b)
 | Em {m:Nat} {p:Int} {e:Tr} {a:List aV} (he:DE e) (hm:m≠0) (ha:a.length<=20) (ka:∀x∈a,rZ m x):rZ (m+1) (.mk 4 p (ba []) (ba []) false [] e a [])
 | Ev {m:Nat} {p:Int} {s:Bt} {e:Tr} (hs:dG s=true) (he:DE e):rZ (m+1) (.mk 5 p s (ba []) false [] e [] [])
 | Gy {m:Nat} {p:Int} {s o:Bt} (hs:dG s=true) (ho:dG o=true):rZ (m+1) (.mk 6 p s o false [] qR [] [])
 | FL {m:Nat} {p q:Int} {s:Bt} {a:List Tr} (he:DE (.mk 4 q 0 0 s [] a)):rZ (m+1) (.mk 7 p (ba []) (ba []) false [] (.mk 4 q 0 0 s [] a) [] [])
 | Ez {m:Nat} {p:Int} {e:Tr} (he:DE e):rZ (m+1) (.mk 8 p (ba []) (ba []) false [] e [] [])
def Wf (m:Nat)(l:List aV):Prop:=l.length<=20/\∀x∈l,rZ m x
theorem apj {e:Nat}{S:List Tok->aA aV}(hS:du S)(g:rk (rZ m) S):∀n acc ts l r,xZ ts->(∀x∈acc,rZ m x)->io e S n acc ts=.ok l r->(∀x∈l,rZ m x)/\l.length<=acc.length+n:=by
 intro n;induction n with
 | zero=>
  intro acc ts l r hf c h;unfold io at h;split at h
  ·cases h;exact⟨c,Nat.le_refl _⟩
  ·cases h
 | succ n i=>
  intro acc ts l r hf c h;unfold io at h;split at h
  ·cases h;exact⟨c,by omega⟩
  ·obtain⟨b,p,d,j⟩:=aQ h;have k:=g _ _ _ hf d
   have f:=i (acc++[b]) _ _ _ (hf.dn (hS _ _ _ d)) (fun a hm=>by
    rcases List.mem_append.1 hm with hm | hm
    ·exact c a hm
    ·rw[List.mem_singleton.1 hm];exact k) j
   refine⟨f.1,?_⟩;have o:=f.2;simp at o;omega
theorem GB {e:Nat}{s t:aV}(h:mP e s ts=.ok t r):t=s:=by
 obtain⟨_,_,_,a⟩:=aQ h;cases a;rfl
theorem adS (e:Nat):rk (fun t=>t=1\/t=2) (kn e):=by
 intro ts a r _ h;unfold kn at h;split at h
 ·cases h;exact .inl rfl
 ·obtain⟨_,_,_,b⟩:=aQ h;cases b;exact .inr rfl
def aqF (k:Int×List Po):Prop:=(k.1=1\/k.1=2)/\gp k.2=ap
theorem Za (e:Nat):rk aqF (nO e):=by
 intro ts a r hf h;obtain⟨_,f,c,h⟩:=aQ h;obtain⟨t,g,b,h⟩:=aQ h;obtain⟨l,i,d,h⟩:=aQ h;cases h;have f1:=hf.dn (gZ _ _ _ _ _ c);exact⟨adS e _ _ _ f1 b,RL e _ _ _ (f1.dn (Qw _ _ _ _ b)) d⟩
def acx (q:cV):Prop:=dG q.name=ap/\(q.type=1\/q.type=2)/\gp q.eo=ap
theorem XM (e:Nat):rk acx (gY e):=by
 intro ts a r hf h;obtain⟨s,f,b,h⟩:=aQ h;obtain⟨k,g,d,h⟩:=aQ h;cases h;have c:=Za e _ _ _ (hf.dn (iJ _ _ _ _ b)) d;exact⟨xf e _ _ _ hf b,c.1,c.2⟩
theorem apb {e p:Nat}{t:Tr}(b:dG s=ap)(hf:xZ ts)(h:Dq e p s ts=.ok t r):∃a,t=.mk 4 (p:Int) 0 0 s [] a/\DE t:=by
 obtain⟨a,f,c,d⟩:=aQ h;cases d;have _:=b;have g:=abz (by decide) (by decide) (by decide) (abo e 12) c;have i:=hf.2;exact⟨a,rfl,by show jy a+1<=100000;omega⟩
theorem aeE {e:Nat}{B:List Tok->aA (List aV)}(w:du B)(n:rk (fun l=>Wf m l/\m≠0) B):rk (rZ (m+1)) (fd e B):=by
 intro ts t r hf h;have f:=hf.dn (jJ ts);unfold fd at h;split at h
 ·obtain⟨x,i,c,h⟩:=aQ h;obtain⟨a,j,d,h⟩:=aQ h;have f1:=f.dn (xI _ _ _ _ _ c);have f2:=f1.dn (w _ _ _ d);have hx:=Iq e 12 _ _ _ f c;have g:=n _ _ _ f1 d;split at h
  ·obtain⟨b,q,k,h⟩:=aQ h;cases h;have u:=n _ _ _ (f2.dn (jJ _)) k;exact .Be hx g.2 g.1.1 u.1.1 g.1.2 u.1.2
  ·cases h;exact .Be hx g.2 g.1.1 (by simp) g.1.2 (fun x hx=>by cases hx)
 split at h
 ·obtain⟨x,i,c,h⟩:=aQ h;obtain⟨a,j,d,h⟩:=aQ h;cases h;have f1:=f.dn (xI _ _ _ _ _ c);have g:=n _ _ _ f1 d;exact .Em (Iq e 12 _ _ _ f c) g.2 g.1.1 g.1.2
 split at h
 ·obtain⟨s,i,c,h⟩:=aQ h;obtain⟨p,j,d,h⟩:=aQ h;obtain⟨_,q,k,h⟩:=aQ h;obtain⟨x,F,y,h⟩:=aQ h;rw[GB h];have f1:=f.dn (iJ _ _ _ _ c);have f3:=(f1.dn (TU _ _ _ _ d)).dn (gZ _ _ _ _ _ k);have v:gp p.2=ap/\(p.1=ak->p.2=[]):=by
   unfold pS at d;split at d
   ·obtain⟨l,G,z,d⟩:=aQ d;cases d;exact⟨RL e _ _ _ f1 z,fun C=>by cases C⟩
   ·cases d;exact⟨by decide,fun _=>rfl⟩
  exact .EP (xf e _ _ _ f c) v.1 v.2 (Iq e 12 _ _ _ f3 y)
 split at h
 ·obtain⟨s,i,c,h⟩:=aQ h;obtain⟨x,j,d,h⟩:=aQ h;rw[GB h];exact .Ev (xf e _ _ _ f c) (Iq e 12 _ _ _ (f.dn (iJ _ _ _ _ c)) d)
 split at h
 ·obtain⟨s,i,c,h⟩:=aQ h;obtain⟨o,j,d,h⟩:=aQ h;rw[GB h];exact .Gy (xf e _ _ _ f c) (xf e _ _ _ (f.dn (iJ _ _ _ _ c)) d)
 split at h
 ·obtain⟨s,i,c,h⟩:=aQ h;obtain⟨x,j,d,h⟩:=aQ h;rw[GB h];obtain⟨a,rfl,E⟩:=apb (xf e _ _ _ f c) (f.dn (iJ _ _ _ _ c)) d;exact .FL E
 split at h
 ·obtain⟨x,i,c,h⟩:=aQ h;rw[GB h];exact .Ez (Iq e 12 _ _ _ f c)
 ·obtain⟨s,i,c,h⟩:=aQ h;obtain⟨_,j,d,h⟩:=aQ h;obtain⟨x,q,k,h⟩:=aQ h;rw[GB h];exact .Eu (xf e _ _ _ hf c) (Iq e 12 _ _ _ ((hf.dn (iJ _ _ _ _ c)).dn (gZ _ _ _ _ _ d)) k)
theorem apr (e:Nat):∀k,rk (fun l=>Wf k l/\k≠0) (block e k):=by
 intro k;induction k with
 | zero=>
  intro ts l r hf h;obtain⟨_,c,a,h⟩:=aQ h;cases h
 | succ k d=>
  intro ts l r hf h;obtain⟨_,c,a,h⟩:=aQ h;have b:=apj (QG (FQ e k)) (aeE (FQ e k) d) _ _ _ _ _ (hf.dn (gZ _ _ _ _ _ a)) (fun x hx=>by cases hx) h;exact⟨⟨by simpa using b.2,b.1⟩,by omega⟩
theorem agj (e:Nat):du (vu e):=by
 intro ts p r h;obtain⟨_,l,a,h⟩:=aQ h;obtain⟨s,m,c,h⟩:=aQ h;obtain⟨q,n,d,h⟩:=aQ h;obtain⟨t,o,g,h⟩:=aQ h;obtain⟨b,u,i,h⟩:=aQ h;obtain⟨f,v,j,h⟩:=aQ h;obtain⟨w,x,k,h⟩:=aQ h;cases h;exact(FQ e 12 _ _ _ k).trans ((Lm _ _ _ _ j).trans ((LH _ _ _ _ i).trans ((Jw _ _ _ _ g).trans ((Dm (A7 e) _ _ _ d).trans ((iJ _ _ _ _ c).trans (gZ _ _ _ _ _ a))))))
structure acy (p:dV):Prop where
 name:dG p.name=ap
 Rc:p.params.length<=4
 OX:p.for_.length<=6
 par:∀q∈p.params,acx q
 res:p.result.name=ba []/\((p.result.type=0/\p.result.eo=[])\/((p.result.type=1\/p.result.type=2)/\gp p.result.eo=ap))
 TT:gp p.pQ=ap
 fo:∀s∈p.for_,dG s=ap
 body:Wf 12 p.body
theorem agl (e:Nat):rk acy (vu e):=by
 intro ts p r hf h;obtain⟨_,x,m,h⟩:=aQ h;obtain⟨s,y,g,h⟩:=aQ h;obtain⟨q,z,i,h⟩:=aQ h;obtain⟨t,B,a,h⟩:=aQ h;obtain⟨b,C,c,h⟩:=aQ h;obtain⟨f,E,d,h⟩:=aQ h;obtain⟨F,G,n,h⟩:=aQ h;cases h;have f1:=hf.dn (gZ _ _ _ _ _ m);have f2:=f1.dn (iJ _ _ _ _ g);have f3:=f2.dn (Dm (A7 e) _ _ _ i);have f4:=f3.dn (Jw _ _ _ _ a);have f5:=f4.dn (LH _ _ _ _ c);have f6:=f5.dn (Lm _ _ _ _ d);have j:=anF (by omega) (A7 e) (XM e) f2 i;have o:t.name=ba []/\((t.type=0/\t.eo=[])\/((t.type=1\/t.type=2)/\gp t.eo=ap)):=by
  unfold vn at a;split at a
  ·obtain⟨k,K,u,a⟩:=aQ a;cases a;exact⟨rfl,.inr (Za e _ _ _ f3 u)⟩
  ·cases a;exact⟨rfl,.inl ⟨rfl,rfl⟩⟩
 have v:gp b=ap:=by
  unfold vQ at c;split at c
  ·exact RL e _ _ _ (f4.dn (jJ _)) c
  ·cases c;decide
 have l:(∀s∈f,dG s=ap)/\f.length<=6:=by
  unfold vM at d;split at d
  ·exact YC (by omega) (iJ e) (xf e) (f5.dn (jJ _)) d
  ·cases d;exact⟨(fun s w=>by cases w),by simp⟩
 exact⟨xf e _ _ _ f1 g,j.2,l.2,j.1,o,v,l.1,(apr e 12 _ _ _ f6 n).1⟩
def ads (c:ii):Prop:=(c.type=1\/c.type=2)/\dG c.name=ap/\gp c.eo=ap
structure F1 (p:bL):Prop where
 xa:p.dl.length<=6
 xg:p.cZ.length<=10
 xd:p.bz.length<=6
 wZ:p.procs.length<=6
 zk:∀s∈p.dl,dG s=ap
 act:∀q∈p.cZ,dG q.1=ap/\dG q.2=ap
 chan:∀c∈p.bz,ads c
 proc:∀q∈p.procs,acy q
theorem Nl {d:Type}{f:d->Prop}{e:Nat}{l g:List d}{P:List Tok->aA d}(i:rk f P)(hf:xZ ts)(j:∀a∈l,f a)(hm:l.length<=m)(h:fT e m l P ts=.ok g r):(∀a∈g,f a)/\g.length<=m:=by
 unfold fT at h;split at h
 ·cases h
 ·rename_i p;obtain⟨a,q,k,n⟩:=aQ h;cases n;have o:=i _ _ _ hf k;refine⟨fun b c=> ?_,by simp;omega⟩;rcases List.mem_append.1 c with c | c
  ·exact j b c
  ·rw[List.mem_singleton.1 c];exact o
theorem aoA (e:Nat):rk (fun s=>dG s=ap) (vO e):=by
 intro ts a r hf h;obtain⟨_,d,b,h⟩:=aQ h;obtain⟨s,f,c,h⟩:=aQ h;obtain⟨_,g,i,h⟩:=aQ h;cases h;exact xf e _ _ _ (hf.dn (gZ _ _ _ _ _ b)) c
theorem aqp (e:Nat):rk (fun q=>dG q.1=ap/\dG q.2=ap) (vS e):=by
 intro ts a r hf h;obtain⟨_,f,c,h⟩:=aQ h;obtain⟨s,g,b,h⟩:=aQ h;obtain⟨t,i,d,h⟩:=aQ h;obtain⟨_,j,k,h⟩:=aQ h;cases h;have f1:=hf.dn (gZ _ _ _ _ _ c);exact⟨xf e _ _ _ f1 b,xf e _ _ _ (f1.dn (iJ _ _ _ _ b)) d⟩
theorem aoG (e:Nat):rk ads (td e):=by
 intro ts a r hf h;obtain⟨q,d,c,h⟩:=aQ h;obtain⟨_,f,g,h⟩:=aQ h;cases h;have b:=XM e _ _ _ (hf.dn (jJ ts)) c;exact⟨b.2.1,b.1,b.2.2⟩
theorem ahn {e:Nat}{p q:bL}(hf:xZ ts)(b:F1 p)(h:js e p ts=.ok q r):F1 q/\r<:+ts:=by
 unfold js at h;split at h
 ·obtain⟨l,j,c,f⟩:=aQ h;cases f;have d:=Nl (aoA e) hf b.zk b.xa c;refine⟨⟨d.2,b.xg,b.xd,b.wZ,d.1,b.act,b.chan,b.proc⟩,?_⟩;unfold fT at c;split at c
  ·cases c
  ·obtain⟨a,k,g,i⟩:=aQ c;cases i;exact abN e _ _ _ g
 split at h
 ·obtain⟨l,j,c,f⟩:=aQ h;cases f;have d:=Nl (aqp e) hf b.act b.xg c;refine⟨⟨b.xa,d.2,b.xd,b.wZ,b.zk,d.1,b.chan,b.proc⟩,?_⟩;unfold fT at c;split at c
  ·cases c
  ·obtain⟨a,k,g,i⟩:=aQ c;cases i;exact acp e _ _ _ g
 split at h
 ·obtain⟨l,j,c,f⟩:=aQ h;cases f;have d:=Nl (aoG e) hf b.chan b.xd c;refine⟨⟨b.xa,b.xg,d.2,b.wZ,b.zk,b.act,d.1,b.proc⟩,?_⟩;unfold fT at c;split at c
  ·cases c
  ·obtain⟨a,k,g,i⟩:=aQ c;cases i;exact abO e _ _ _ g
 split at h
 ·obtain⟨l,j,c,f⟩:=aQ h;cases f;have d:=Nl (agl e) hf b.proc b.wZ c;refine⟨⟨b.xa,b.xg,b.xd,d.2,b.zk,b.act,b.chan,d.1⟩,?_⟩;unfold fT at c;split at c
  ·cases c
  ·obtain⟨a,k,g,i⟩:=aQ c;cases i;exact agj e _ _ _ g
 ·cases h
theorem agf {e:Nat}:∀f p ts q r,xZ ts->F1 p->jq e f p ts=.ok q r->F1 q:=by
 intro f;induction f with
 | zero=>intro p ts q r _ b h;cases h;exact b
 | succ f d=>
  intro p ts q r hf b h;unfold jq at h;split at h
  ·cases h;exact b
  ·obtain⟨a,j,g,i⟩:=aQ h;have c:=ahn hf b g;exact d _ _ _ _ (hf.dn c.2) c.1 i
theorem ahd:F1 ⟨[],[],[],[]⟩:=⟨by simp,by simp,by simp,by simp,(fun s h=>by cases h),(fun s h=>by cases h),(fun s h=>by cases h),(fun s h=>by cases h)⟩
theorem afK {l:Lu}{p:bL}(h:qN l=.ok p r):F1 p:=by
 unfold qN zV at h;split at h
 ·cases h
 ·rename_i d;obtain⟨ts,c,q,e⟩:∃ts c q,Lex.jK l=(ts,c,q):=⟨_,_,_,rfl⟩;rw[e] at h d;simp at d;subst d;obtain⟨a,s,f,b⟩:=aQ h;unfold vp at b;split at b
  ·cases b;exact agf _ _ _ _ _ ⟨Xa e,by have:=(Lex.LL e).2.1;omega⟩ ahd f
  ·cases b
end ag
open ag (aV cV ii dV bL Tr Po ba)
def tB (m:Nat)(s:aV):Prop:=∀(w:au) (S:Np) (ca:Lv) (d:Nat),bK w S s ca->xP w->d+m=13->aC prog 59 #[.agg ca.toArray,A I (d:Int)] w fun e w'=>e=aE (az (dB (eO s)))/\Bl w w'
theorem aem {n t:Int}{a:List Tr}{r:Lv}(h:aS w S (.mk k p n t s l a) (A I z0::r)):k=z0:=by
 generalize b:(Value.int I z0::r)=C at h;cases h;simp at b;exact b.1.symm
theorem ael (h:aS w S ag.qR [A I z0,A I z1,A I z2,A I G,H L,O R Q d5,O X N d6]):z0=0/\z2=0/\G=0/\L=⟨#[]⟩/\Q=0/\N=0:=by
 unfold ag.qR at h;generalize a:[Value.int I z0,A I z1,A I z2,A I G,H L,O R Q d5,O X N d6]=C at h;cases h with
 | mk l b c d m=>
  obtain⟨n,o,rfl⟩:=b.val;obtain⟨p,q,rfl⟩:=c.val;rw[d] at a;simp at a;obtain⟨e,_,f,g,i,⟨_,j,_⟩,⟨_,k,_⟩⟩:=a;exact⟨e,f,g,i,j,k⟩
theorem akO {e:TypeId}(b:V=W.alloc (M (ks.map fun i=>Value.int I i).toArray e)):PC V W.heap.size 0 ks:=by
 have a:V.heap[W.heap.size]? =Z (M (ks.map fun i=>Value.int I i).toArray e):=(by rw[b];exact cu _ _ _ rfl);refine⟨fun i c=> ?_,J a⟩;simp[aN,a,c]
theorem mG {a:Nat}{e:TypeId}(b:V=W.alloc (M (ks.map fun i=>Value.int I i).toArray e))(c:W.cell? (Y a 0 U)=Z (A I k))(hn:n=ks.length)(f:n<=20):
 aC prog 110 #[O (Z (Y W.heap.size 0 U)) n n,aB (Z (Y a 0 U))] V fun x w'=>x=aE (az (decide (k∈ks)))/\V=w':=by
 have d:Bl W V:=(by rw[b];exact(Below.refl _ _).alloc (Nat.le_refl _) _);exact(amh hn (by omega) (akO b) ((d.cell (World.block_lt_of_cell? W _ c)).trans c)).mono fun x w' h=>⟨h.1,h.2.symm⟩
theorem ug {f:Oa}{c:Nat}{css:List (Lv)}{l:List aV}(h:qy w S 15 f b off n c css)(r:css.length=l.length)(g:∀i (h:i<l.length) (s:i<css.length),bK w S l[i] css[i]):FZ w f b off css:=by
 have k:∀x∈css,x.length=15:=fun x hx=>by
  obtain⟨i,a,rfl⟩:=List.getElem_of_mem hx;exact iA.len (g i (by omega) a)
 refine⟨h.dR,fun j e d=> ?_,amR k,fun e d=> ?_,h.lt⟩
 ·obtain⟨a,m⟩:=amS k j e d;have o:=h.cell (j / 15) a (j % 15) e m;have p:((Y b off U):Addr).add j=(Y b (off+j / 15*15+j % 15) U):=(by have:off+j=off+j / 15*15+j % 15:=(by omega);simp[Addr.add,this];try (intro t;omega));rw[p];exact o
 ·unfold tT at d;rw[List.mem_flatten] at d;obtain⟨x,hx,q⟩:=d;obtain⟨i,a,rfl⟩:=List.getElem_of_mem hx;exact iA.one (g i (by omega) a) e q
theorem abS {w':au}{b:List aV}{css c:List (Lv)}(f:Bl w w')(m:w.heap.size<=V.heap.size)(n:css.length=a.length)(s:c.length=b.length)(g:∀i (h:i<a.length) (j:i<css.length),bK w S a[i] css[i])(k:∀i (h:i<b.length) (j:i<c.length),bK w S b[i] c[i])(o:w'.ownsRow V.heap.size 109 15 v (css++c).length (tT (css++c))):
 gj w' (fun _=>True) 15 v (css++c)/\∀i (h:i<(a++b).length) (j:i<(css++c).length),bK w' (fun b=>S b/\b<w.heap.size) (a++b)[i] (css++c)[i]:=by
 have p:∀x∈css++c,x.length=15:=fun x hx=>by
  rcases List.mem_append.1 hx with hx | hx
  ·obtain⟨i,d,rfl⟩:=List.getElem_of_mem hx;exact iA.len (g i (by omega) d)
  ·obtain⟨i,d,rfl⟩:=List.getElem_of_mem hx;exact iA.len (k i (by omega) d)
 have _:=m;have kp:∀{t:aV} {C:Lv},bK w S t C->bK w' (fun b=>S b/\b<w.heap.size) t C:=fun h=>iA.keeps (iA.mono h fun b e q=>⟨e,q⟩) ⟨f.size,fun b e _=>f.block b e.2⟩;refine⟨gj.Nc (S:=fun _=>True) o (by simp) (fun i d=>p _ (fD d)) (fun _ _=>trivial),fun i d r=> ?_⟩;by_cases l:i<a.length
 ·rw[List.getElem_append_left l,List.getElem_append_left (by omega)];exact kp (g i l (by omega))
 ·rw[List.getElem_append_right (by omega),List.getElem_append_right (by omega)];have:=kp (k (i - a.length) (by simp at d;omega) (by simp at r;omega));simpa[n] using this
theorem Tj (r:k=1\/k=2\/k=5)(hs:ag.dG s=ap)(he:ag.s9 e=ap)(rS:ag.gI e<=100000):tB (m+1) (.mk k p s (ba []) ak [] e [] []):=by
 rcases r with r | r | r;all_goals
  have lO:∀(fn:Fn) (first ad:Av) (w:au),(Instr.makeFunc fn first ad).run prog w=.ok (.func fn first ad) w:=fun _ _ _ _=>rfl;have eg:=enters_of func110 (by kernel_rfl) rfl;intro w S ca K ha hx Ib;obtain⟨t,u,z0,z1,z2,G,L,R,Q,d5,X,N,d6,j,ac,o,q,rfl,ct,vC,kr,oS,cr,br⟩:=vj ha;change aC prog 59 #[.agg #[A I k,A I p,H s,H ⟨#[]⟩,az ak,O t 0 u,A I z0,A I z1,A I z2,A I G,H L,O R Q d5,O X N d6,O j 0 ac,O o 0 q],A I (K:Int)] w _;have HX:=am hx;have HE:=am oS;have HL:=am kr;have HR:=am (aj cr br);obtain⟨v,P⟩:∃v,ag.dZ 12 e=v:=⟨_,rfl⟩;have qJ:ah (dB (eO (.mk k p s (ba []) ak [] e [] []))=v):=by
   cases v with
   | true=>exact nE (nD.2 ⟨fun _=>P,(fun x hx=>by cases hx),(fun x hx=>by cases hx)⟩)
   | false=>exact nF fun h=>by have:=(nD.1 h).1 (by rw[r];decide);rw[P] at this;cases this
  have uT:=am P;have sW:K<=12:=(by omega);have Ie:decide ((12:Int)<(K:Int))=ak:=(by simp;omega);obtain⟨ti,BH⟩:∃b,decide ((11:Int)<(K:Int))=b:=⟨_,rfl⟩;obtain⟨v0,y⟩:=nm (w.alloc (M #[A I k,A I p,H s,H ⟨#[]⟩,az ak,O t 0 u,A I z0,A I z1,A I z2,A I G,H L,O R Q d5,O X N d6,O j 0 ac,O o 0 q] 109));have ud:=am (eS y);have z:=am (aa y);rw[r] at y;clear ha hx kr oS cr br P;have a:=dm z;have c:=J z;go_enter func59,ntmps59;go_upto_region 1 with fail
  rw[<-y];clear y
  go_cut [46] (fun vm wc=>vm=az ak/\v0=wc)
  case first=>
   cases ti<;>(go_wp2_with fail;go_meet;exact⟨rfl,rfl⟩)
  case rest=>
   obtain⟨rfl,rfl⟩:=hcut;clear a c BH;have a:=dm z;have c:=J z;obtain⟨v1,g⟩:=nm (v0.alloc (M #[A I 1,A I 2,A I 5,A I 6] 3));have ry:=an ud g;have gm:ah (v1.heap[w.heap.size]? =Z (M #[A I k,A I p,H s,H ⟨#[]⟩,az ak,O t 0 u,A I z0,A I z1,A I z2,A I G,H L,O R Q d5,O X N d6,O j 0 ac,O o 0 q] 109)):=(by show _=_;rw[g];exact cR z);have f:=mG (ks:=[1,2,5,6]) (n:=4) g a.1 rfl (by decide);go_wp2_with fail;rw[<-g];clear g;refine f.mono ?_;rintro x wx ⟨rfl,rfl⟩;clear f a c;have a:=dm gm;have c:=J gm;have f:=(by have B:=tL (HX.later ry) ct;rw[hs] at B;exact B:aC prog 57 #[H s] v1 fun e C=>e=aE (az ap)/\Bl v1 C);go_wp2_with fail;refine f.mono ?_;rintro x v2 ⟨rfl,d⟩;have Gk:=bt ry d;have n9:=am ((d.block _ c).trans gm);clear f d a c;have a:=dm n9;have c:=J n9;obtain⟨T,E⟩:=nm (v2.alloc (M #[A I 6] 3));have V:=an Gk E;have j9:ah (T.heap[w.heap.size]? =Z (M #[A I k,A I p,H s,H ⟨#[]⟩,az ak,O t 0 u,A I z0,A I z1,A I z2,A I G,H L,O R Q d5,O X N d6,O j 0 ac,O o 0 q] 109)):=(by show _=_;rw[E];exact cR n9);have f:=mG (ks:=[6]) (n:=1) E a.1 rfl (by decide);go_wp2_with fail;rw[<-E];clear E;refine f.mono ?_;rintro x wx ⟨rfl,rfl⟩;clear f a c;have a:=dm j9;have c:=J j9;have f:aC prog 112 #[.agg #[A I z0,A I z1,A I z2,A I G,H L,O R Q d5,O X N d6]] T fun e C=>e=aE (az v)/\Bl T C:=(by have B:=Hg (S:=fun b=>S b/\b<w.heap.size) (aS.keeps (HE.mono fun b d hl=>⟨d,hl⟩) (⟨V.size,fun b h _=>V.block b h.2⟩:aP (fun b=>S b/\b<w.heap.size) w T)) (HX.later V) rS he;rw[uT.out] at B;exact B);go_wp2_with fail;refine f.mono ?_;rintro x v4 ⟨rfl,d⟩;have pY:=bt V d;have mo:=am ((d.block _ c).trans j9);clear f d a c;cases v with
   | false=>
    go_wp2;go_ret;exact⟨congrArg (fun b=>jS (Value.bool b)) qJ.symm,pY.out⟩
   | true=>
    have a:=dm mo;have c:=J mo;obtain⟨W,F⟩:=nm (v4.alloc (M #[A I 7] 3));have lX:=an pY F;have mm:ah (W.heap[w.heap.size]? =Z (M #[A I k,A I p,H s,H ⟨#[]⟩,az ak,O t 0 u,A I z0,A I z1,A I z2,A I G,H L,O R Q d5,O X N d6,O j 0 ac,O o 0 q] 109)):=(by show _=_;rw[F];exact cR mo);have f:=mG (ks:=[7]) (n:=1) F a.1 rfl (by decide);go_wp2_with fail;rw[<-F];clear F;refine f.mono ?_;rintro x wx ⟨rfl,rfl⟩;clear f a c;have a:=dm mm;have c:=J mm;have f:=(xG (S:=fun b=>S b/\b<w.heap.size) (HX.later lX) ((HL.mono fun b d hl=>⟨d,hl⟩).keeps (⟨lX.size,fun b h _=>lX.block b h.2⟩:aP (fun b=>S b/\b<w.heap.size) w W)) rfl:aC prog 58 #[O t 0 u] W fun e C=>e=aE (az ap)/\Bl W C);go_wp2_with fail;refine f.mono ?_;rintro x v6 ⟨rfl,d⟩;have qK:=bt lX d;have mK:=am ((d.block _ c).trans mm);clear f d a c;have a:=dm mK;have c:=J mK;obtain⟨⟨ae,⟨ro,rb,eA,vq,g,db⟩,dA,et⟩,⟨gd,⟨wW,rE,rD,GK,jL,fi⟩,eP,gL⟩⟩:=HR.out;obtain rfl:ae=[]:=List.length_eq_zero_iff.1 dA;obtain rfl:gd=[]:=List.length_eq_zero_iff.1 eP;simp only[List.length_nil,Value.slice.injEq,true_and] at g jL;obtain⟨rfl,rfl⟩:=g;obtain⟨rfl,rfl⟩:=jL;obtain⟨v7,ik⟩:=nm (v6.alloc (M #[O j 0 ac,O o 0 q] 63));have lI:=an qK ik;have gv:=aa ik;have mW:=FO v6.heap.size j o rb eA rE rD 0 0 ac q [] [] v7 rfl rfl (by decide) (by simp[aN,gv]) (by simp[aN,gv]) (J gv) ((ug (l:=[]) db rfl et).later lI) ((ug (l:=[]) fi rfl gL).later lI);clear db fi et gL dA eP gv;go_wp2_with fail;rw[<-ik];clear ik;refine mW.mono ?_;rintro x v8 ⟨af,rfl,bF,d⟩;have oc:=bt lI d;obtain⟨uo,uc,rfl⟩:=nt bF;clear mW bF d a c;go_wp2;go_loopw [173] (fun i wr=>i=A I 0/\wr=v8) (fun i _=>0);case atStart=>exact⟨rfl,rfl⟩
    case round=>
     obtain⟨rfl,rfl⟩:=hrel;go_wp2;go_ret;exact⟨congrArg (fun b=>jS (Value.bool b)) qJ.symm,oc.out⟩
theorem amF (a:ag.dG s=ap)(b:ag.s9 e=ap)(c:ag.gI e<=100000):tB (m+1) (.mk 1 p s (ba []) ak [] e [] []):=Tj (.inl rfl) a b c
theorem amB (a:ag.dG s=ap)(b:ag.s9 e=ap)(c:ag.gI e<=100000):tB (m+1) (.mk 2 p s (ba []) ak [] e [] []):=Tj (.inr (.inl rfl)) a b c
theorem amC (a:ag.dG s=ap)(b:ag.s9 e=ap)(c:ag.gI e<=100000):tB (m+1) (.mk 5 p s (ba []) ak [] e [] []):=Tj (.inr (.inr rfl)) a b c
theorem amE (hs:ag.dG s=ap)(u:ag.gp l=ap)(he:ag.s9 e=ap)(rS:ag.gI e<=100000):tB (m+1) (.mk 1 p s (ba []) ap l e [] []):=by
 have lO:∀(fn:Fn) (first ad:Av) (w:au),(Instr.makeFunc fn first ad).run prog w=.ok (.func fn first ad) w:=fun _ _ _ _=>rfl;have eg:=enters_of func110 (by kernel_rfl) rfl;intro w S ca F ha hx Ib;obtain⟨q,r,z0,z1,z2,G,L,R,Q,d5,X,N,d6,g,ac,j,k,rfl,ct,vC,kr,oS,cr,br⟩:=vj ha;change aC prog 59 #[.agg #[A I 1,A I p,H s,H ⟨#[]⟩,az ap,O q l.length r,A I z0,A I z1,A I z2,A I G,H L,O R Q d5,O X N d6,O g 0 ac,O j 0 k],A I (F:Int)] w _;have HX:=am hx;have HE:=am oS;have HL:=am kr;have HR:=am (aj cr br);obtain⟨t,K⟩:∃t,ag.dZ 12 e=t:=⟨_,rfl⟩;have qJ:ah (dB (eO (.mk 1 p s (ba []) ap l e [] []))=t):=by
  cases t with
  | true=>exact nE (nD.2 ⟨fun _=>K,(fun x hx=>by cases hx),(fun x hx=>by cases hx)⟩)
  | false=>exact nF fun h=>by have:=(nD.1 h).1 (by decide);rw[K] at this;cases this
 have uT:=am K;have sW:F<=12:=(by omega);have Ie:decide ((12:Int)<(F:Int))=ak:=(by simp;omega);obtain⟨ti,BH⟩:∃b,decide ((11:Int)<(F:Int))=b:=⟨_,rfl⟩;obtain⟨v0,P⟩:=nm (w.alloc (M #[A I 1,A I p,H s,H ⟨#[]⟩,az ap,O q l.length r,A I z0,A I z1,A I z2,A I G,H L,O R Q d5,O X N d6,O g 0 ac,O j 0 k] 109));have ud:=am (eS P);have v:=am (aa P);clear ha hx kr oS cr br K;have a:=dm v;have c:=J v;go_enter func59,ntmps59;go_upto_region 1 with fail
 rw[<-P];clear P
 go_cut [46] (fun vm wc=>vm=az ak/\v0=wc)
 case first=>
  cases ti<;>(go_wp2_with fail;go_meet;exact⟨rfl,rfl⟩)
 case rest=>
  obtain⟨rfl,rfl⟩:=hcut;clear a c BH;have a:=dm v;have c:=J v;obtain⟨v1,o⟩:=nm (v0.alloc (M #[A I 1,A I 2,A I 5,A I 6] 3));have ry:=an ud o;have gm:ah (v1.heap[w.heap.size]? =Z (M #[A I 1,A I p,H s,H ⟨#[]⟩,az ap,O q l.length r,A I z0,A I z1,A I z2,A I G,H L,O R Q d5,O X N d6,O g 0 ac,O j 0 k] 109)):=(by show _=_;rw[o];exact cR v);have d:=mG (ks:=[1,2,5,6]) (n:=4) o a.1 rfl (by decide);go_wp2_with fail;rw[<-o];clear o;refine d.mono ?_;rintro x wx ⟨rfl,rfl⟩;clear d a c;have a:=dm gm;have c:=J gm;have d:=(by have y:=tL (HX.later ry) ct;rw[hs] at y;exact y:aC prog 57 #[H s] v1 fun e z=>e=aE (az ap)/\Bl v1 z);go_wp2_with fail;refine d.mono ?_;rintro x v2 ⟨rfl,f⟩;have Gk:=bt ry f;have n9:=am ((f.block _ c).trans gm);clear d f a c;have a:=dm n9;have c:=J n9;obtain⟨T,B⟩:=nm (v2.alloc (M #[A I 6] 3));have V:=an Gk B;have j9:ah (T.heap[w.heap.size]? =Z (M #[A I 1,A I p,H s,H ⟨#[]⟩,az ap,O q l.length r,A I z0,A I z1,A I z2,A I G,H L,O R Q d5,O X N d6,O g 0 ac,O j 0 k] 109)):=(by show _=_;rw[B];exact cR n9);have d:=mG (ks:=[6]) (n:=1) B a.1 rfl (by decide);go_wp2_with fail;rw[<-B];clear B;refine d.mono ?_;rintro x wx ⟨rfl,rfl⟩;clear d a c;have a:=dm j9;have c:=J j9;have d:aC prog 112 #[.agg #[A I z0,A I z1,A I z2,A I G,H L,O R Q d5,O X N d6]] T fun e z=>e=aE (az t)/\Bl T z:=(by have y:=Hg (S:=fun b=>S b/\b<w.heap.size) (aS.keeps (HE.mono fun b f u=>⟨f,u⟩) (⟨V.size,fun b h _=>V.block b h.2⟩:aP (fun b=>S b/\b<w.heap.size) w T)) (HX.later V) rS he;rw[uT.out] at y;exact y);go_wp2_with fail;refine d.mono ?_;rintro x v4 ⟨rfl,f⟩;have pY:=bt V f;have mo:=am ((f.block _ c).trans j9);clear d f a c;cases t with
  | false=>
   go_wp2;go_ret;exact⟨congrArg (fun b=>jS (Value.bool b)) qJ.symm,pY.out⟩
  | true=>
   have a:=dm mo;have c:=J mo;obtain⟨v5,C⟩:=nm (v4.alloc (M #[A I 7] 3));have lX:=an pY C;have mm:ah (v5.heap[w.heap.size]? =Z (M #[A I 1,A I p,H s,H ⟨#[]⟩,az ap,O q l.length r,A I z0,A I z1,A I z2,A I G,H L,O R Q d5,O X N d6,O g 0 ac,O j 0 k] 109)):=(by show _=_;rw[C];exact cR mo);have d:=mG (ks:=[7]) (n:=1) C a.1 rfl (by decide);go_wp2_with fail;rw[<-C];clear C;refine d.mono ?_;rintro x wx ⟨rfl,rfl⟩;clear d a c;have a:=dm mm;have c:=J mm;obtain⟨W,E⟩:=nm (v5.alloc (M #[A I 1] 3));have I6:=an lX E;have IS:ah (W.heap[w.heap.size]? =Z (M #[A I 1,A I p,H s,H ⟨#[]⟩,az ap,O q l.length r,A I z0,A I z1,A I z2,A I G,H L,O R Q d5,O X N d6,O g 0 ac,O j 0 k] 109)):=(by show _=_;rw[E];exact cR mm);have d:=mG (ks:=[1]) (n:=1) E a.1 rfl (by decide);go_wp2_with fail;rw[<-E];clear E;refine d.mono ?_;rintro x wx ⟨rfl,rfl⟩;clear d a c;have a:=dm IS;have c:=J IS;have d:=(xG (S:=fun b=>S b/\b<w.heap.size) (HX.later I6) ((HL.mono fun b f u=>⟨f,u⟩).keeps (⟨I6.size,fun b h _=>I6.block b h.2⟩:aP (fun b=>S b/\b<w.heap.size) w W)) u:aC prog 58 #[O q l.length r] W fun e z=>e=aE (az ap)/\Bl W z);go_wp2_with fail;refine d.mono ?_;rintro x v6 ⟨rfl,f⟩;have qK:=bt I6 f;have mK:=am ((f.block _ c).trans IS);clear d f a c;have a:=dm mK;have c:=J mK;obtain⟨⟨ae,⟨ro,rb,eA,vq,o,db⟩,dA,et⟩,⟨gd,⟨wW,rE,rD,GK,jL,fi⟩,eP,gL⟩⟩:=HR.out;obtain rfl:ae=[]:=List.length_eq_zero_iff.1 dA;obtain rfl:gd=[]:=List.length_eq_zero_iff.1 eP;simp only[List.length_nil,Value.slice.injEq,true_and] at o jL;obtain⟨rfl,rfl⟩:=o;obtain⟨rfl,rfl⟩:=jL;obtain⟨v7,ik⟩:=nm (v6.alloc (M #[O g 0 ac,O j 0 k] 63));have lI:=an qK ik;have gv:=aa ik;have mW:=FO v6.heap.size g j rb eA rE rD 0 0 ac k [] [] v7 rfl rfl (by decide) (by simp[aN,gv]) (by simp[aN,gv]) (J gv) ((ug (l:=[]) db rfl et).later lI) ((ug (l:=[]) fi rfl gL).later lI);clear db fi et gL dA eP gv
   go_wp2_with fail;rw[<-ik];clear ik;refine mW.mono ?_;rintro x v8 ⟨af,rfl,bF,f⟩;have oc:=bt lI f;obtain⟨uo,uc,rfl⟩:=nt bF;clear mW bF f a c;go_wp2;go_loopw [173] (fun i wr=>i=A I 0/\wr=v8) (fun i _=>0);case atStart=>exact⟨rfl,rfl⟩
   case round=>
    obtain⟨rfl,rfl⟩:=hrel;go_wp2;go_ret;exact⟨congrArg (fun b=>jS (Value.bool b)) qJ.symm,oc.out⟩
theorem amD (he:ag.s9 e=ap)(rS:ag.gI e<=100000):tB (m+1) (.mk 8 p (ba []) (ba []) ak [] e [] []):=by
 have lO:∀(fn:Fn) (first ad:Av) (w:au),(Instr.makeFunc fn first ad).run prog w=.ok (.func fn first ad) w:=fun _ _ _ _=>rfl;have eg:=enters_of func110 (by kernel_rfl) rfl;intro w S ca y ha hx Ib;obtain⟨q,r,z0,z1,z2,G,L,R,Q,d5,X,N,d6,j,ac,k,o,rfl,ct,vC,kr,oS,cr,br⟩:=vj ha;change aC prog 59 #[.agg #[A I 8,A I p,H ⟨#[]⟩,H ⟨#[]⟩,az ak,O q 0 r,A I z0,A I z1,A I z2,A I G,H L,O R Q d5,O X N d6,O j 0 ac,O k 0 o],A I (y:Int)] w _;have HX:=am hx;have HE:=am oS;have HL:=am kr;have HR:=am (aj cr br);obtain⟨s,z⟩:∃s,ag.dZ 12 e=s:=⟨_,rfl⟩;have qJ:ah (dB (eO (.mk 8 p (ba []) (ba []) ak [] e [] []))=s):=by
  cases s with
  | true=>exact nE (nD.2 ⟨fun _=>z,(fun x hx=>by cases hx),(fun x hx=>by cases hx)⟩)
  | false=>exact nF fun h=>by have:=(nD.1 h).1 (by decide);rw[z] at this;cases this
 have uT:=am z;have sW:y<=12:=(by omega);have Ie:decide ((12:Int)<(y:Int))=ak:=(by simp;omega);obtain⟨ti,BH⟩:∃b,decide ((11:Int)<(y:Int))=b:=⟨_,rfl⟩;obtain⟨v0,B⟩:=nm (w.alloc (M #[A I 8,A I p,H ⟨#[]⟩,H ⟨#[]⟩,az ak,O q 0 r,A I z0,A I z1,A I z2,A I G,H L,O R Q d5,O X N d6,O j 0 ac,O k 0 o] 109));have ud:=am (eS B);have t:=am (aa B);clear ha hx kr oS cr br z;have a:=dm t;have c:=J t;go_enter func59,ntmps59;go_upto_region 1 with fail
 rw[<-B];clear B
 go_cut [46] (fun vm wc=>vm=az ak/\v0=wc)
 case first=>
  cases ti<;>(go_wp2_with fail;go_meet;exact⟨rfl,rfl⟩)
 case rest=>
  obtain⟨rfl,rfl⟩:=hcut;clear a c BH;have a:=dm t;have c:=J t;obtain⟨v1,g⟩:=nm (v0.alloc (M #[A I 1,A I 2,A I 5,A I 6] 3));have ry:=an ud g;have V:ah (v1.heap[w.heap.size]? =Z (M #[A I 8,A I p,H ⟨#[]⟩,H ⟨#[]⟩,az ak,O q 0 r,A I z0,A I z1,A I z2,A I G,H L,O R Q d5,O X N d6,O j 0 ac,O k 0 o] 109)):=(by show _=_;rw[g];exact cR t);have d:=mG (ks:=[1,2,5,6]) (n:=4) g a.1 rfl (by decide);go_wp2_with fail;rw[<-g];clear g;refine d.mono ?_;rintro x wx ⟨rfl,rfl⟩;clear d a c;have a:=dm V;have c:=J V;obtain⟨C,u⟩:=nm (v1.alloc (M #[A I 6] 3));have E:=an ry u;have W:ah (C.heap[w.heap.size]? =Z (M #[A I 8,A I p,H ⟨#[]⟩,H ⟨#[]⟩,az ak,O q 0 r,A I z0,A I z1,A I z2,A I G,H L,O R Q d5,O X N d6,O j 0 ac,O k 0 o] 109)):=(by show _=_;rw[u];exact cR V);have d:=mG (ks:=[6]) (n:=1) u a.1 rfl (by decide);go_wp2_with fail;rw[<-u];clear u;refine d.mono ?_;rintro x wx ⟨rfl,rfl⟩;clear d a c;have a:=dm W;have c:=J W;have d:aC prog 112 #[.agg #[A I z0,A I z1,A I z2,A I G,H L,O R Q d5,O X N d6]] C fun e w'=>e=aE (az s)/\Bl C w':=(by have h9:=Hg (S:=fun b=>S b/\b<w.heap.size) (aS.keeps (HE.mono fun b f hl=>⟨f,hl⟩) (⟨E.size,fun b h _=>E.block b h.2⟩:aP (fun b=>S b/\b<w.heap.size) w C)) (HX.later E) rS he;rw[uT.out] at h9;exact h9);go_wp2_with fail;refine d.mono ?_;rintro x v4 ⟨rfl,f⟩;have pY:=bt E f;have mo:=am ((f.block _ c).trans W);clear d f a c;cases s with
  | false=>
   go_wp2;go_ret;exact⟨congrArg (fun b=>jS (Value.bool b)) qJ.symm,pY.out⟩
  | true=>
   have a:=dm mo;have c:=J mo;obtain⟨F,v⟩:=nm (v4.alloc (M #[A I 7] 3));have K:=an pY v;have mm:ah (F.heap[w.heap.size]? =Z (M #[A I 8,A I p,H ⟨#[]⟩,H ⟨#[]⟩,az ak,O q 0 r,A I z0,A I z1,A I z2,A I G,H L,O R Q d5,O X N d6,O j 0 ac,O k 0 o] 109)):=(by show _=_;rw[v];exact cR mo);have d:=mG (ks:=[7]) (n:=1) v a.1 rfl (by decide);go_wp2_with fail;rw[<-v];clear v;refine d.mono ?_;rintro x wx ⟨rfl,rfl⟩;clear d a c;have a:=dm mm;have c:=J mm;have d:=(xG (S:=fun b=>S b/\b<w.heap.size) (HX.later K) ((HL.mono fun b f hl=>⟨f,hl⟩).keeps (⟨K.size,fun b h _=>K.block b h.2⟩:aP (fun b=>S b/\b<w.heap.size) w F)) rfl:aC prog 58 #[O q 0 r] F fun e w'=>e=aE (az ap)/\Bl F w');go_wp2_with fail;refine d.mono ?_;rintro x v6 ⟨rfl,f⟩;have qK:=bt K f;have mK:=am ((f.block _ c).trans mm);clear d f a c;have a:=dm mK;have c:=J mK;obtain⟨⟨ae,⟨ro,rb,eA,vq,g,db⟩,dA,et⟩,⟨gd,⟨wW,rE,rD,GK,jL,fi⟩,eP,gL⟩⟩:=HR.out;obtain rfl:ae=[]:=List.length_eq_zero_iff.1 dA;obtain rfl:gd=[]:=List.length_eq_zero_iff.1 eP;simp only[List.length_nil,Value.slice.injEq,true_and] at g jL;obtain⟨rfl,rfl⟩:=g;obtain⟨rfl,rfl⟩:=jL;obtain⟨v7,P⟩:=nm (v6.alloc (M #[O j 0 ac,O k 0 o] 63));have lI:=an qK P;have T:=aa P;have mW:=FO v6.heap.size j k rb eA rE rD 0 0 ac o [] [] v7 rfl rfl (by decide) (by simp[aN,T]) (by simp[aN,T]) (J T) ((ug (l:=[]) db rfl et).later lI) ((ug (l:=[]) fi rfl gL).later lI);clear db fi et gL dA eP T;go_wp2_with fail;rw[<-P];clear P;refine mW.mono ?_;rintro x v8 ⟨af,rfl,bF,f⟩;have oc:=bt lI f;obtain⟨uo,uc,rfl⟩:=nt bF;clear mW bF f a c;go_wp2;go_loopw [173] (fun i wr=>i=A I 0/\wr=v8) (fun i _=>0);case atStart=>exact⟨rfl,rfl⟩
   case round=>
    obtain⟨rfl,rfl⟩:=hrel;go_wp2;go_ret;exact⟨congrArg (fun b=>jS (Value.bool b)) qJ.symm,oc.out⟩
theorem amH {q:Int}{aa:List Tr}(he:ag.s9 (.mk 4 q 0 0 s [] aa)=ap)(rS:ag.gI (.mk 4 q 0 0 s [] aa)<=100000):tB (m+1) (.mk 7 p (ba []) (ba []) ak [] (.mk 4 q 0 0 s [] aa) [] []):=by
 have lO:∀(fn:Fn) (first ad:Av) (w:au),(Instr.makeFunc fn first ad).run prog w=.ok (.func fn first ad) w:=fun _ _ _ _=>rfl;have eg:=enters_of func110 (by kernel_rfl) rfl;intro w S ca B ha hx Ib;obtain⟨r,t,z0,z1,z2,G,L,R,Q,d5,X,N,d6,g,ac,j,k,rfl,ct,vC,kr,oS,cr,br⟩:=vj ha;obtain rfl:=aem oS;change aC prog 59 #[.agg #[A I 7,A I p,H ⟨#[]⟩,H ⟨#[]⟩,az ak,O r 0 t,A I 4,A I z1,A I z2,A I G,H L,O R Q d5,O X N d6,O g 0 ac,O j 0 k],A I (B:Int)] w _;have HX:=am hx;have HE:=am oS;have HL:=am kr;have HR:=am (aj cr br);obtain⟨u,C⟩:∃u,ag.dZ 12 (.mk 4 q 0 0 s [] aa)=u:=⟨_,rfl⟩;have qJ:ah (dB (eO (.mk 7 p (ba []) (ba []) ak [] (.mk 4 q 0 0 s [] aa) [] []))=u):=by
  cases u with
  | true=>exact nE (nD.2 ⟨fun _=>C,(fun x hx=>by cases hx),(fun x hx=>by cases hx)⟩)
  | false=>exact nF fun h=>by have:=(nD.1 h).1 (by decide);rw[C] at this;cases this
 have uT:=am C;have sW:B<=12:=(by omega);have Ie:decide ((12:Int)<(B:Int))=ak:=(by simp;omega);obtain⟨ti,BH⟩:∃b,decide ((11:Int)<(B:Int))=b:=⟨_,rfl⟩;obtain⟨v0,E⟩:=nm (w.alloc (M #[A I 7,A I p,H ⟨#[]⟩,H ⟨#[]⟩,az ak,O r 0 t,A I 4,A I z1,A I z2,A I G,H L,O R Q d5,O X N d6,O g 0 ac,O j 0 k] 109));have ud:=am (eS E);have v:ah (v0.heap[w.heap.size]? =Z (M #[A I 7,A I p,H ⟨#[]⟩,H ⟨#[]⟩,az ak,O r 0 t,A I 4,A I z1,A I z2,A I G,H L,O R Q d5,O X N d6,O g 0 ac,O j 0 k] 109)):=(by show _=_;rw[E];exact cu _ _ _ rfl);clear ha hx kr oS cr br C;have a:=dm v;have c:=J v;go_enter func59,ntmps59;go_upto_region 1 with fail
 rw[<-E];clear E
 go_cut [46] (fun vm wc=>vm=az ak/\v0=wc)
 case first=>
  cases ti<;>(go_wp2_with fail;go_meet;exact⟨rfl,rfl⟩)
 case rest=>
  obtain⟨rfl,rfl⟩:=hcut;clear a c BH;have a:=dm v;have c:=J v;obtain⟨v1,o⟩:=nm (v0.alloc (M #[A I 1,A I 2,A I 5,A I 6] 3));have ry:=an ud o;have gm:ah (v1.heap[w.heap.size]? =Z (M #[A I 7,A I p,H ⟨#[]⟩,H ⟨#[]⟩,az ak,O r 0 t,A I 4,A I z1,A I z2,A I G,H L,O R Q d5,O X N d6,O g 0 ac,O j 0 k] 109)):=(by show _=_;rw[o];exact cR v);have d:=mG (ks:=[1,2,5,6]) (n:=4) o a.1 rfl (by decide);go_wp2_with fail;rw[<-o];clear o;refine d.mono ?_;rintro x wx ⟨rfl,rfl⟩;clear d a c;have a:=dm gm;have c:=J gm;obtain⟨F,y⟩:=nm (v1.alloc (M #[A I 6] 3));have K:=an ry y;have j9:ah (F.heap[w.heap.size]? =Z (M #[A I 7,A I p,H ⟨#[]⟩,H ⟨#[]⟩,az ak,O r 0 t,A I 4,A I z1,A I z2,A I G,H L,O R Q d5,O X N d6,O g 0 ac,O j 0 k] 109)):=(by show _=_;rw[y];exact cR gm);have d:=mG (ks:=[6]) (n:=1) y a.1 rfl (by decide);go_wp2_with fail;rw[<-y];clear y;refine d.mono ?_;rintro x wx ⟨rfl,rfl⟩;clear d a c;have a:=dm j9;have c:=J j9;have d:aC prog 112 #[.agg #[A I 4,A I z1,A I z2,A I G,H L,O R Q d5,O X N d6]] F fun e w'=>e=aE (az u)/\Bl F w':=(by have h9:=Hg (S:=fun b=>S b/\b<w.heap.size) (aS.keeps (HE.mono fun b f hl=>⟨f,hl⟩) (⟨K.size,fun b h _=>K.block b h.2⟩:aP (fun b=>S b/\b<w.heap.size) w F)) (HX.later K) rS he;rw[uT.out] at h9;exact h9);go_wp2_with fail;refine d.mono ?_;rintro x v4 ⟨rfl,f⟩;have pY:=bt K f;have mo:=am ((f.block _ c).trans j9);clear d f a c;cases u with
  | false=>
   go_wp2;go_ret;exact⟨congrArg (fun b=>jS (Value.bool b)) qJ.symm,pY.out⟩
  | true=>
   have a:=dm mo;have c:=J mo;obtain⟨P,z⟩:=nm (v4.alloc (M #[A I 7] 3));have T:=an pY z;have mm:ah (P.heap[w.heap.size]? =Z (M #[A I 7,A I p,H ⟨#[]⟩,H ⟨#[]⟩,az ak,O r 0 t,A I 4,A I z1,A I z2,A I G,H L,O R Q d5,O X N d6,O g 0 ac,O j 0 k] 109)):=(by show _=_;rw[z];exact cR mo);have d:=mG (ks:=[7]) (n:=1) z a.1 rfl (by decide);go_wp2_with fail;rw[<-z];clear z;refine d.mono ?_;rintro x wx ⟨rfl,rfl⟩;clear d a c;have a:=dm mm;have c:=J mm;have d:=(xG (S:=fun b=>S b/\b<w.heap.size) (HX.later T) ((HL.mono fun b f hl=>⟨f,hl⟩).keeps (⟨T.size,fun b h _=>T.block b h.2⟩:aP (fun b=>S b/\b<w.heap.size) w P)) rfl:aC prog 58 #[O r 0 t] P fun e w'=>e=aE (az ap)/\Bl P w');go_wp2_with fail;refine d.mono ?_;rintro x v6 ⟨rfl,f⟩;have qK:=bt T f;have mK:=am ((f.block _ c).trans mm);clear d f a c;have a:=dm mK;have c:=J mK;obtain⟨⟨ae,⟨ro,rb,eA,vq,o,db⟩,dA,et⟩,⟨gd,⟨wW,rE,rD,GK,jL,fi⟩,eP,gL⟩⟩:=HR.out;obtain rfl:ae=[]:=List.length_eq_zero_iff.1 dA;obtain rfl:gd=[]:=List.length_eq_zero_iff.1 eP;simp only[List.length_nil,Value.slice.injEq,true_and] at o jL;obtain⟨rfl,rfl⟩:=o;obtain⟨rfl,rfl⟩:=jL;obtain⟨v7,V⟩:=nm (v6.alloc (M #[O g 0 ac,O j 0 k] 63));have lI:=an qK V;have W:v7.heap[v6.heap.size]? =Z (M #[O g 0 ac,O j 0 k] 63):=(by rw[V];exact cu _ _ _ rfl);have mW:=FO v6.heap.size g j rb eA rE rD 0 0 ac k [] [] v7 rfl rfl (by decide) (by simp[aN,W]) (by simp[aN,W]) (J W) ((ug (l:=[]) db rfl et).later lI) ((ug (l:=[]) fi rfl gL).later lI);clear db fi et gL dA eP W;go_wp2_with fail;rw[<-V];clear V;refine mW.mono ?_;rintro x v8 ⟨af,rfl,bF,f⟩;have oc:=bt lI f;obtain⟨uo,uc,rfl⟩:=nt bF;clear mW bF f a c;go_wp2;go_loopw [173] (fun i wr=>i=A I 0/\wr=v8) (fun i _=>0);case atStart=>exact⟨rfl,rfl⟩
   case round=>
    obtain⟨rfl,rfl⟩:=hrel;go_wp2;go_ret;exact⟨congrArg (fun b=>jS (Value.bool b)) qJ.symm,oc.out⟩
theorem amz (he:ag.s9 e=ap)(rS:ag.gI e<=100000)(qk:m≠0)(ai:a.length<=20)(ka:∀x∈a,tB m x):tB (m+1) (.mk 4 p (ba []) (ba []) ak [] e a []):=by
 have lO:∀(fn:Fn) (first ad:Av) (w:au),(Instr.makeFunc fn first ad).run prog w=.ok (.func fn first ad) w:=fun _ _ _ _=>rfl;have eg:=enters_of func110 (by kernel_rfl) rfl;intro w S ca u ha hx Ib;obtain⟨v,y,z0,z1,z2,G,L,R,Q,d5,X,N,d6,q,ac,s,t,rfl,ct,vC,kr,oS,cr,br⟩:=vj ha;change aC prog 59 #[.agg #[A I 4,A I p,H ⟨#[]⟩,H ⟨#[]⟩,az ak,O v 0 y,A I z0,A I z1,A I z2,A I G,H L,O R Q d5,O X N d6,O q a.length ac,O s 0 t],A I (u:Int)] w _;have HX:=am hx;have HE:=am oS;have HL:=am kr;have HR:=am (aj cr br);obtain⟨B,lu⟩:∃B,ag.dZ 12 e=B:=⟨_,rfl⟩;have qJ:ah (B=ak->dB (eO (.mk 4 p (ba []) (ba []) ak [] e a []))=ak):=fun h0=>nF fun h=>(by have:=(nD.1 h).1 (by decide);rw[lu,h0] at this;cases this);have wE:ah (∀x∈a++[],¬eO x->dB (eO (.mk 4 p (ba []) (ba []) ak [] e a []))=ak):=fun x hx hn=>nF fun h=>by
  rcases List.mem_append.1 hx with hx | hx
  ·exact hn ((nD.1 h).2.1 x hx)
  ·exact hn ((nD.1 h).2.2 x hx)
 have Mx:ah (B=ap->(∀x∈a++[],eO x)->dB (eO (.mk 4 p (ba []) (ba []) ak [] e a []))=ap):=fun h0 h=>nE (nD.2 ⟨fun _=>by rw[lu,h0],fun x hx=>h x (List.mem_append.2 (.inl hx)),fun x hx=>h x (List.mem_append.2 (.inr hx))⟩);have AP:ah (∀x∈a++[],tB m x):=fun x hx=>by
  rcases List.mem_append.1 hx with hx | hx
  ·exact ka x hx
  ·cases hx
 have KI:¬11<u:=(by omega);have ao:decide ((11:Int)<(u:Int))=ak:=(by simp;omega);have ar:decide ((20:Int)<(a.length:Int))=ak:=by simp;omega
 skip
 have uT:=am lu;have sW:u<=12:=(by omega);have Ie:decide ((12:Int)<(u:Int))=ak:=(by simp;omega);obtain⟨v0,fU⟩:=nm (w.alloc (M #[A I 4,A I p,H ⟨#[]⟩,H ⟨#[]⟩,az ak,O v 0 y,A I z0,A I z1,A I z2,A I G,H L,O R Q d5,O X N d6,O q a.length ac,O s 0 t] 109));have ud:=am (eS fU);have F:=am (aa fU);clear ha hx kr oS cr br lu;have c:=dm F;have f:=J F;go_enter func59,ntmps59;go_upto_region 1 with fail
 rw[<-fU];clear fU
 go_cut [46] (fun vm wc=>vm=az ak/\v0=wc)
 case first=>
  go_wp2_with fail;go_meet;exact⟨rfl,rfl⟩
 case rest=>
  obtain⟨rfl,rfl⟩:=hcut;clear c f;have c:=dm F;have f:=J F;obtain⟨v1,z⟩:=nm (v0.alloc (M #[A I 1,A I 2,A I 5,A I 6] 3));have ry:=an ud z;have gm:ah (v1.heap[w.heap.size]? =Z (M #[A I 4,A I p,H ⟨#[]⟩,H ⟨#[]⟩,az ak,O v 0 y,A I z0,A I z1,A I z2,A I G,H L,O R Q d5,O X N d6,O q a.length ac,O s 0 t] 109)):=(by show _=_;rw[z];exact cR F);have k:=mG (ks:=[1,2,5,6]) (n:=4) z c.1 rfl (by decide);go_wp2_with fail;rw[<-z];clear z;refine k.mono ?_;rintro x wx ⟨rfl,rfl⟩;clear k c f;have c:=dm gm;have f:=J gm;obtain⟨v3,K⟩:=nm (v1.alloc (M #[A I 6] 3));have ki:=an ry K;have j9:ah (v3.heap[w.heap.size]? =Z (M #[A I 4,A I p,H ⟨#[]⟩,H ⟨#[]⟩,az ak,O v 0 y,A I z0,A I z1,A I z2,A I G,H L,O R Q d5,O X N d6,O q a.length ac,O s 0 t] 109)):=(by show _=_;rw[K];exact cR gm);have k:=mG (ks:=[6]) (n:=1) K c.1 rfl (by decide);go_wp2_with fail;rw[<-K];clear K;refine k.mono ?_;rintro x wx ⟨rfl,rfl⟩;clear k c f;have c:=dm j9;have f:=J j9;have k:aC prog 112 #[.agg #[A I z0,A I z1,A I z2,A I G,H L,O R Q d5,O X N d6]] v3 fun e w'=>e=aE (az B)/\Bl v3 w':=(by have h9:=Hg (S:=fun b=>S b/\b<w.heap.size) (aS.keeps (HE.mono fun b g P=>⟨g,P⟩) (⟨ki.size,fun b h _=>ki.block b h.2⟩:aP (fun b=>S b/\b<w.heap.size) w v3)) (HX.later ki) rS he;rw[uT.out] at h9;exact h9);go_wp2_with fail;refine k.mono ?_;rintro x v4 ⟨rfl,g⟩;have pY:=bt ki g;have mo:=am ((g.block _ f).trans j9);clear k g c f;cases B with
  | false=>
   go_wp2;go_ret;exact⟨congrArg (fun b=>jS (Value.bool b)) (qJ.out (by first | rfl | trivial)).symm,pY.out⟩
  | true=>
   have c:=dm mo;have f:=J mo;obtain⟨v5,T⟩:=nm (v4.alloc (M #[A I 7] 3));have lX:=an pY T;have mm:ah (v5.heap[w.heap.size]? =Z (M #[A I 4,A I p,H ⟨#[]⟩,H ⟨#[]⟩,az ak,O v 0 y,A I z0,A I z1,A I z2,A I G,H L,O R Q d5,O X N d6,O q a.length ac,O s 0 t] 109)):=(by show _=_;rw[T];exact cR mo);have k:=mG (ks:=[7]) (n:=1) T c.1 rfl (by decide);go_wp2_with fail;rw[<-T];clear T;refine k.mono ?_;rintro x wx ⟨rfl,rfl⟩;clear k c f;have c:=dm mm;have f:=J mm;have k:=(xG (S:=fun b=>S b/\b<w.heap.size) (HX.later lX) ((HL.mono fun b g P=>⟨g,P⟩).keeps (⟨lX.size,fun b h _=>lX.block b h.2⟩:aP (fun b=>S b/\b<w.heap.size) w v5)) rfl:aC prog 58 #[O v 0 y] v5 fun e w'=>e=aE (az ap)/\Bl v5 w');go_wp2_with fail;refine k.mono ?_;rintro x v6 ⟨rfl,g⟩;have qK:=bt lX g;have mK:=am ((g.block _ f).trans mm);clear k g c f;have c:=dm mK;have f:=J mK;go_upto_region 17 with fail
   go_cut [165] (fun QO wc=>QO=az ak/\ah (Bl w wc)/\ah (wc.heap[w.heap.size]? =Z (M #[A I 4,A I p,H ⟨#[]⟩,H ⟨#[]⟩,az ak,O v 0 y,A I z0,A I z1,A I z2,A I G,H L,O R Q d5,O X N d6,O q a.length ac,O s 0 t] 109)))
   case first=>
    as_aux_lemma=>
    by_cases OQ:0<a.length
    ·obtain⟨vh,V⟩:=nm (v6.alloc (M #[A I 3,A I 4] 3));have k:=mG (ks:=[3,4]) (n:=2) V c.1 rfl (by decide);have DP:=an qK V;have uM:ah (vh.heap[w.heap.size]? =Z (M #[A I 4,A I p,H ⟨#[]⟩,H ⟨#[]⟩,az ak,O v 0 y,A I z0,A I z1,A I z2,A I G,H L,O R Q d5,O X N d6,O q a.length ac,O s 0 t] 109)):=(by show _=_;rw[V];exact cR mK);go_wp2_with fail;rw[<-V];clear V c f;refine k.mono ?_;rintro x wx ⟨rfl,rfl⟩;clear k;have c:=dm uM;have f:=J uM;go_wp2_with fail;go_meet;exact⟨rfl,DP,uM⟩
    ·go_wp2_with fail;go_meet;exact⟨rfl,qK,mK⟩
   case rest=>
    as_aux_lemma=>
    obtain⟨rfl,V3,LZ⟩:=hcut;obtain⟨va,rfl⟩:=nm wc;clear c f;have c:=dm LZ;have f:=J LZ;obtain⟨⟨ae,⟨ro,rb,eA,vq,z,db⟩,dA,et⟩,⟨gd,⟨wW,rE,rD,GK,jL,fi⟩,eP,gL⟩⟩:=HR.out;simp only[Value.slice.injEq] at z jL;obtain⟨rfl,cI,rfl⟩:=z;obtain⟨rfl,bS,rfl⟩:=jL;obtain⟨v7,ik⟩:=nm (va.alloc (M #[O q a.length ac,O s 0 t] 63));have lI:=an V3 ik;have gv:=aa ik;have mW:=FO va.heap.size q s rb eA rE rD a.length 0 ac t ae gd v7 cI bS (by omega) (by simp[aN,gv]) (by simp[aN,gv]) (J gv) ((ug db dA et).later lI) ((ug fi eP gL).later lI);have C:=am (aj dA (aj eP (aj et gL)));clear db fi et gL dA eP gv cI bS;go_wp2_with fail;rw[<-ik];clear ik;refine mW.mono ?_;rintro x v8 ⟨af,rfl,bF,g⟩;have E:=bt lI g;obtain⟨R9,xy⟩:=abS E lI.size C.1 C.2.1 C.2.2.1 C.2.2.2 bF;obtain⟨vo,vb,Qv,vc,rfl,Bi⟩:=R9;obtain⟨al,iE⟩:=nm (a++[]);rw[<-iE] at xy wE Mx AP;have Sl:al.length<=40:=(by rw[iE];simp;omega);obtain⟨cl,d⟩:=nm (ae++gd);have Fw:cl.length=al.length:=(by rw[d,iE];simp[C.1,C.2.1]);rw[<-d] at Bi xy⊢;obtain⟨n,hn⟩:=nm al.length;rw[Fw,<-hn] at Bi⊢;have HN:=am (aj hn Fw);have F8:=am Bi;have VW:=am xy;have av:n<=40:=(by omega);clear mW bF g c f Bi xy iE d Fw hn Sl;go_wp2;go_loopw [173] (fun i wr=>∃j:Nat,j<=n/\i=A I j/\ah (Bl v8 wr)/\ah (∀i (h:i<al.length),i<j->eO al[i])) (fun i _=>n - (intOf i).toNat);case atStart=>exact⟨0,Nat.zero_le _,rfl,Below.refl _ _,fun i _ h=>absurd h (by omega)⟩
    case round=>
     obtain⟨j,hj,rfl,bQ,HJ⟩:=hrel;by_cases aK:j<n
     ·as_aux_lemma=>
      have dp:j<al.length:=(by have:=HN.out;omega);have fg:j<cl.length:=(by have:=HN.out;omega);have h1:=VW.out j dp fg;obtain rfl:=F8.dR (by omega);have o:=F8.lt (by omega);have l:=fun i af=>F8.cell j fg i af;obtain⟨x0,x1,x2,x3,x4,x5,jT,j7,x6,x7,x8,x9,fS,fR,yF,zh,fQ,yE,zg,fP,yD,ze,fO,yC,zb,hx⟩:=JB h1;rw[hx] at h1 l;obtain⟨d,_⟩:=oX bQ;have lw:=bQ.size;have p0:wr.cell? (Y vb (Qv+j*15) U)=Z (A I x0):=(d _ _ o).trans (l 0 _ rfl);have p1:=(d _ _ o).trans (l 1 _ rfl);have p2:=(d _ _ o).trans (l 2 _ rfl);have p3:=(d _ _ o).trans (l 3 _ rfl);have p4:=(d _ _ o).trans (l 4 _ rfl);have p5:=(d _ _ o).trans (l 5 _ rfl);have p6:=(d _ _ o).trans (l 6 _ rfl);have p7:=(d _ _ o).trans (l 7 _ rfl);have p8:=(d _ _ o).trans (l 8 _ rfl);have p9:=(d _ _ o).trans (l 9 _ rfl);have GV:=(d _ _ o).trans (l 10 _ rfl);have GU:=(d _ _ o).trans (l 11 _ rfl);have GT:=(d _ _ o).trans (l 12 _ rfl);have GR:=(d _ _ o).trans (l 13 _ rfl);have GQ:=(d _ _ o).trans (l 14 _ rfl);have lr:vb<wr.heap.size:=(by omega);obtain⟨wy,fZ⟩:=nm (wr.alloc (M #[A I x0,A I x1,H x2,H x3,az x4,O x5 jT j7,A I x6,A I x7,A I x8,A I x9,H fS,O fR yF zh,O fQ yE zg,O fP yD ze,O fO yC zb] 109));have ib:=eS fZ;have W:=bQ.trans (ib.mono lw);obtain⟨Jx,yL⟩:∃r,dB (eO al[j])=r:=⟨_,rfl⟩;have qG:=am yL;have cT:=AP.out al[j] (fD dp) wy (fun b=>(S b/\b<w.heap.size)/\b<v8.heap.size) _ (u+1) (iA.keeps (iA.mono h1 fun b g P=>⟨g,P⟩) ⟨W.size,fun b g _=>W.block b g.2⟩) ((HX.later E).later W) (by omega);rw[yL,show((u+1:Nat):Int)=(u:Int)+1 by omega] at cT;have tj:ah (wy=wr.alloc (M #[A I x0,A I x1,H x2,H x3,az x4,O x5 jT j7,A I x6,A I x7,A I x8,A I x9,H fS,O fR yF zh,O fQ yE zg,O fP yD ze,O fO yC zb] 109)):=fZ;have dD:ah (Bl v8 wy):=W;clear h1 l hx d ib W fZ yL;go_wp2_with fail;rw[<-tj.out];refine cT.mono ?_;rintro x w9 ⟨rfl,fI⟩
      have uU:ah (Bl v8 w9):=dD.trans (fI.mono dD.size);clear fI cT;cases Jx with
      | false=>
       have HF:ah (dB (eO (.mk 4 p (ba []) (ba []) ak [] e a []))=ak):=wE.out al[j] (fD dp) fun h=>(by have:=nE h;rw[qG.out] at this;cases this);go_wp2;go_ret;exact⟨congrArg (fun b=>jS (Value.bool b)) HF.symm,E.trans (uU.mono E.size)⟩
      | true=>
       have Mm:ah (∀i (h:i<al.length),i<j+1->eO al[i]):=fun i hi Sn=>by
        by_cases lq:i=j
        ·subst lq;apply Classical.byContradiction;intro iS;have:=nF iS;rw[qG.out] at this;cases this
        ·exact HJ.out i hi (by omega)
       go_wp2;go_roundw;case rel=>exact⟨j+1,by omega,by go_num,uU,Mm⟩
       case measure=>simp[intOf];omega
     ·as_aux_lemma=>
      have HF:ah (dB (eO (.mk 4 p (ba []) (ba []) ak [] e a []))=ap):=Mx.out (by first | rfl | trivial) fun x hx=>by
       obtain⟨i,hi,rfl⟩:=List.getElem_of_mem hx;exact HJ.out i hi (by have:=HN.out;omega)
      go_wp2;go_ret;exact⟨congrArg (fun b=>jS (Value.bool b)) HF.symm,E.trans (bQ.mono E.size)⟩
theorem amG {b:List aV}(he:ag.s9 e=ap)(rS:ag.gI e<=100000)(qk:m≠0)(av:a.length<=20)(ef:b.length<=20)(ka:∀x∈a,tB m x)(kb:∀x∈b,tB m x):tB (m+1) (.mk 3 p (ba []) (ba []) ak [] e a b):=by
 have lO:∀(fn:Fn) (first ad:Av) (w:au),(Instr.makeFunc fn first ad).run prog w=.ok (.func fn first ad) w:=fun _ _ _ _=>rfl;have eg:=enters_of func110 (by kernel_rfl) rfl;intro w S ca z ha hx Ib;obtain⟨v,y,z0,z1,z2,G,L,R,Q,d5,X,N,d6,s,ac,t,u,rfl,ct,vC,kr,oS,cr,br⟩:=vj ha;change aC prog 59 #[.agg #[A I 3,A I p,H ⟨#[]⟩,H ⟨#[]⟩,az ak,O v 0 y,A I z0,A I z1,A I z2,A I G,H L,O R Q d5,O X N d6,O s a.length ac,O t b.length u],A I (z:Int)] w _;have HX:=am hx;have HE:=am oS;have HL:=am kr;have HR:=am (aj cr br);obtain⟨E,lu⟩:∃E,ag.dZ 12 e=E:=⟨_,rfl⟩;have qJ:ah (E=ak->dB (eO (.mk 3 p (ba []) (ba []) ak [] e a b))=ak):=fun h0=>nF fun h=>(by have:=(nD.1 h).1 (by decide);rw[lu,h0] at this;cases this);have wE:ah (∀x∈a++b,¬eO x->dB (eO (.mk 3 p (ba []) (ba []) ak [] e a b))=ak):=fun x hx hn=>nF fun h=>by
  rcases List.mem_append.1 hx with hx | hx
  ·exact hn ((nD.1 h).2.1 x hx)
  ·exact hn ((nD.1 h).2.2 x hx)
 have Mx:ah (E=ap->(∀x∈a++b,eO x)->dB (eO (.mk 3 p (ba []) (ba []) ak [] e a b))=ap):=fun h0 h=>nE (nD.2 ⟨fun _=>by rw[lu,h0],fun x hx=>h x (List.mem_append.2 (.inl hx)),fun x hx=>h x (List.mem_append.2 (.inr hx))⟩);have AP:ah (∀x∈a++b,tB m x):=fun x hx=>by
  rcases List.mem_append.1 hx with hx | hx
  ·exact ka x hx
  ·exact kb x hx
 have KI:¬11<z:=(by omega);have ax:decide ((11:Int)<(z:Int))=ak:=(by simp;omega);have ay:decide ((20:Int)<(a.length:Int))=ak:=(by simp;omega);have aG:decide ((20:Int)<(b.length:Int))=ak:=(by simp;omega);have uT:=am lu;have sW:z<=12:=(by omega);have Ie:decide ((12:Int)<(z:Int))=ak:=(by simp;omega);obtain⟨v0,fU⟩:=nm (w.alloc (M #[A I 3,A I p,H ⟨#[]⟩,H ⟨#[]⟩,az ak,O v 0 y,A I z0,A I z1,A I z2,A I G,H L,O R Q d5,O X N d6,O s a.length ac,O t b.length u] 109));have ud:=am (eS fU);have V:=am (aa fU);clear ha hx kr oS cr br lu;have c:=dm V;have f:=J V;go_enter func59,ntmps59;go_upto_region 1 with fail
 rw[<-fU];clear fU
 go_cut [46] (fun vm wc=>vm=az ak/\v0=wc)
 case first=>
  go_wp2_with fail;go_meet;exact⟨rfl,rfl⟩
 case rest=>
  obtain⟨rfl,rfl⟩:=hcut;clear c f;have c:=dm V;have f:=J V;obtain⟨v1,B⟩:=nm (v0.alloc (M #[A I 1,A I 2,A I 5,A I 6] 3));have ry:=an ud B;have gm:ah (v1.heap[w.heap.size]? =Z (M #[A I 3,A I p,H ⟨#[]⟩,H ⟨#[]⟩,az ak,O v 0 y,A I z0,A I z1,A I z2,A I G,H L,O R Q d5,O X N d6,O s a.length ac,O t b.length u] 109)):=(by show _=_;rw[B];exact cR V);have d:=mG (ks:=[1,2,5,6]) (n:=4) B c.1 rfl (by decide);go_wp2_with fail;rw[<-B];clear B;refine d.mono ?_;rintro x W ⟨rfl,rfl⟩;clear d c f;have c:=dm gm;have f:=J gm;obtain⟨v3,eX⟩:=nm (v1.alloc (M #[A I 6] 3));have ki:=an ry eX;have j9:ah (v3.heap[w.heap.size]? =Z (M #[A I 3,A I p,H ⟨#[]⟩,H ⟨#[]⟩,az ak,O v 0 y,A I z0,A I z1,A I z2,A I G,H L,O R Q d5,O X N d6,O s a.length ac,O t b.length u] 109)):=(by show _=_;rw[eX];exact cR gm);have d:=mG (ks:=[6]) (n:=1) eX c.1 rfl (by decide);go_wp2_with fail;rw[<-eX];clear eX;refine d.mono ?_;rintro x W ⟨rfl,rfl⟩;clear d c f;have c:=dm j9;have f:=J j9;have d:aC prog 112 #[.agg #[A I z0,A I z1,A I z2,A I G,H L,O R Q d5,O X N d6]] v3 fun e w'=>e=aE (az E)/\Bl v3 w':=(by have h9:=Hg (S:=fun b=>S b/\b<w.heap.size) (aS.keeps (HE.mono fun b k hl=>⟨k,hl⟩) (⟨ki.size,fun b h _=>ki.block b h.2⟩:aP (fun b=>S b/\b<w.heap.size) w v3)) (HX.later ki) rS he;rw[uT.out] at h9;exact h9);go_wp2_with fail;refine d.mono ?_;rintro x v4 ⟨rfl,k⟩;have pY:=bt ki k;have mo:=am ((k.block _ f).trans j9);clear d k c f;cases E with
  | false=>
   go_wp2;go_ret;exact⟨congrArg (fun b=>jS (Value.bool b)) (qJ.out (by first | rfl | trivial)).symm,pY.out⟩
  | true=>
   have c:=dm mo;have f:=J mo;obtain⟨v5,jv⟩:=nm (v4.alloc (M #[A I 7] 3));have lX:=an pY jv;have mm:ah (v5.heap[w.heap.size]? =Z (M #[A I 3,A I p,H ⟨#[]⟩,H ⟨#[]⟩,az ak,O v 0 y,A I z0,A I z1,A I z2,A I G,H L,O R Q d5,O X N d6,O s a.length ac,O t b.length u] 109)):=(by show _=_;rw[jv];exact cR mo);have d:=mG (ks:=[7]) (n:=1) jv c.1 rfl (by decide);go_wp2_with fail;rw[<-jv];clear jv;refine d.mono ?_;rintro x W ⟨rfl,rfl⟩;clear d c f;have c:=dm mm;have f:=J mm;have d:=(xG (S:=fun b=>S b/\b<w.heap.size) (HX.later lX) ((HL.mono fun b k hl=>⟨k,hl⟩).keeps (⟨lX.size,fun b h _=>lX.block b h.2⟩:aP (fun b=>S b/\b<w.heap.size) w v5)) rfl:aC prog 58 #[O v 0 y] v5 fun e w'=>e=aE (az ap)/\Bl v5 w');go_wp2_with fail;refine d.mono ?_;rintro x v6 ⟨rfl,k⟩;have qK:=bt lX k;have mK:=am ((k.block _ f).trans mm);clear d k c f;have c:=dm mK;have f:=J mK;go_upto_region 17 with fail
   go_cut [165] (fun QO wc=>QO=az ak/\ah (Bl w wc)/\ah (wc.heap[w.heap.size]? =Z (M #[A I 3,A I p,H ⟨#[]⟩,H ⟨#[]⟩,az ak,O v 0 y,A I z0,A I z1,A I z2,A I G,H L,O R Q d5,O X N d6,O s a.length ac,O t b.length u] 109)))
   case first=>
    as_aux_lemma=>
    by_cases OQ:0<a.length
    ·obtain⟨F,l⟩:=nm (v6.alloc (M #[A I 3,A I 4] 3));have d:=mG (ks:=[3,4]) (n:=2) l c.1 rfl (by decide);have K:=an qK l;have C:ah (F.heap[w.heap.size]? =Z (M #[A I 3,A I p,H ⟨#[]⟩,H ⟨#[]⟩,az ak,O v 0 y,A I z0,A I z1,A I z2,A I G,H L,O R Q d5,O X N d6,O s a.length ac,O t b.length u] 109)):=(by show _=_;rw[l];exact cR mK);go_wp2_with fail;rw[<-l];clear l c f;refine d.mono ?_;rintro x W ⟨rfl,rfl⟩;clear d;have c:=dm C;have f:=J C;by_cases ai:0<b.length
     ·obtain⟨vk,rfl⟩:=nm F;have ao:=K;have ar:=C;obtain⟨F,l⟩:=nm (vk.alloc (M #[A I 3] 3));have d:=mG (ks:=[3]) (n:=1) l c.1 rfl (by decide);have K:=an ao l;have C:ah (F.heap[w.heap.size]? =Z (M #[A I 3,A I p,H ⟨#[]⟩,H ⟨#[]⟩,az ak,O v 0 y,A I z0,A I z1,A I z2,A I G,H L,O R Q d5,O X N d6,O s a.length ac,O t b.length u] 109)):=(by show _=_;rw[l];exact cR ar);go_wp2_with fail;rw[<-l];clear l c f;refine d.mono ?_;rintro x W ⟨rfl,rfl⟩;clear d;go_wp2_with fail;go_meet;exact⟨rfl,K,C⟩
     ·go_wp2_with fail;go_meet;exact⟨rfl,K,C⟩
    ·by_cases ai:0<b.length
     ·obtain⟨F,l⟩:=nm (v6.alloc (M #[A I 3] 3));have d:=mG (ks:=[3]) (n:=1) l c.1 rfl (by decide);have K:=an qK l;have C:ah (F.heap[w.heap.size]? =Z (M #[A I 3,A I p,H ⟨#[]⟩,H ⟨#[]⟩,az ak,O v 0 y,A I z0,A I z1,A I z2,A I G,H L,O R Q d5,O X N d6,O s a.length ac,O t b.length u] 109)):=(by show _=_;rw[l];exact cR mK);go_wp2_with fail;rw[<-l];clear l c f;refine d.mono ?_;rintro x W ⟨rfl,rfl⟩;clear d;go_wp2_with fail;go_meet;exact⟨rfl,K,C⟩
     ·go_wp2_with fail;go_meet;exact⟨rfl,qK,mK⟩
   case rest=>
    as_aux_lemma=>
    obtain⟨rfl,V3,LZ⟩:=hcut;obtain⟨va,rfl⟩:=nm wc;clear c f;have c:=dm LZ;have f:=J LZ;obtain⟨⟨ae,⟨ro,rb,eA,vq,B,db⟩,dA,et⟩,⟨gd,⟨wW,rE,rD,GK,jL,fi⟩,eP,gL⟩⟩:=HR.out;simp only[Value.slice.injEq] at B jL;obtain⟨rfl,cI,rfl⟩:=B;obtain⟨rfl,bS,rfl⟩:=jL;obtain⟨v7,ik⟩:=nm (va.alloc (M #[O s a.length ac,O t b.length u] 63));have lI:=an V3 ik;have gv:=aa ik;have mW:=FO va.heap.size s t rb eA rE rD a.length b.length ac u ae gd v7 cI bS (by omega) (by simp[aN,gv]) (by simp[aN,gv]) (J gv) ((ug db dA et).later lI) ((ug fi eP gL).later lI);have P:=am (aj dA (aj eP (aj et gL)));clear db fi et gL dA eP gv cI bS;go_wp2_with fail;rw[<-ik];clear ik;refine mW.mono ?_;rintro x v8 ⟨af,rfl,bF,k⟩;have T:=bt lI k;obtain⟨R9,xy⟩:=abS T lI.size P.1 P.2.1 P.2.2.1 P.2.2.2 bF;obtain⟨vo,vb,Qv,vc,rfl,Bi⟩:=R9;obtain⟨al,iE⟩:=nm (a++b);rw[<-iE] at xy wE Mx AP;have Sl:al.length<=40:=(by rw[iE];simp;omega);obtain⟨cl,g⟩:=nm (ae++gd);have Fw:cl.length=al.length:=(by rw[g,iE];simp[P.1,P.2.1]);rw[<-g] at Bi xy⊢;obtain⟨n,hn⟩:=nm al.length;rw[Fw,<-hn] at Bi⊢;have HN:=am (aj hn Fw);have F8:=am Bi;have VW:=am xy;have aI:n<=40:=(by omega);clear mW bF k c f Bi xy iE g Fw hn Sl;go_wp2;go_loopw [173] (fun i wr=>∃j:Nat,j<=n/\i=A I j/\ah (Bl v8 wr)/\ah (∀i (h:i<al.length),i<j->eO al[i])) (fun i _=>n - (intOf i).toNat);case atStart=>exact⟨0,Nat.zero_le _,rfl,Below.refl _ _,fun i _ h=>absurd h (by omega)⟩
    case round=>
     obtain⟨j,hj,rfl,bQ,HJ⟩:=hrel;by_cases aK:j<n
     ·as_aux_lemma=>
      have dp:j<al.length:=(by have:=HN.out;omega);have fg:j<cl.length:=(by have:=HN.out;omega);have h1:=VW.out j dp fg;obtain rfl:=F8.dR (by omega);have q:=F8.lt (by omega);have o:=fun i af=>F8.cell j fg i af;obtain⟨x0,x1,x2,x3,x4,x5,jT,j7,x6,x7,x8,x9,fS,fR,yF,zh,fQ,yE,zg,fP,yD,ze,fO,yC,zb,hx⟩:=JB h1;rw[hx] at h1 o;obtain⟨g,_⟩:=oX bQ;have lw:=bQ.size;have p0:wr.cell? (Y vb (Qv+j*15) U)=Z (A I x0):=(g _ _ q).trans (o 0 _ rfl);have p1:=(g _ _ q).trans (o 1 _ rfl);have p2:=(g _ _ q).trans (o 2 _ rfl);have p3:=(g _ _ q).trans (o 3 _ rfl);have p4:=(g _ _ q).trans (o 4 _ rfl);have p5:=(g _ _ q).trans (o 5 _ rfl);have p6:=(g _ _ q).trans (o 6 _ rfl);have p7:=(g _ _ q).trans (o 7 _ rfl);have p8:=(g _ _ q).trans (o 8 _ rfl);have p9:=(g _ _ q).trans (o 9 _ rfl);have GV:=(g _ _ q).trans (o 10 _ rfl);have GU:=(g _ _ q).trans (o 11 _ rfl);have GT:=(g _ _ q).trans (o 12 _ rfl);have GR:=(g _ _ q).trans (o 13 _ rfl);have GQ:=(g _ _ q).trans (o 14 _ rfl);have lr:vb<wr.heap.size:=(by omega);obtain⟨wy,fZ⟩:=nm (wr.alloc (M #[A I x0,A I x1,H x2,H x3,az x4,O x5 jT j7,A I x6,A I x7,A I x8,A I x9,H fS,O fR yF zh,O fQ yE zg,O fP yD ze,O fO yC zb] 109));have ib:=eS fZ;have aH:=bQ.trans (ib.mono lw);obtain⟨Jx,yL⟩:∃r,dB (eO al[j])=r:=⟨_,rfl⟩;have qG:=am yL;have cT:=AP.out al[j] (fD dp) wy (fun b=>(S b/\b<w.heap.size)/\b<v8.heap.size) _ (z+1) (iA.keeps (iA.mono h1 fun b k hl=>⟨k,hl⟩) ⟨aH.size,fun b k _=>aH.block b k.2⟩) ((HX.later T).later aH) (by omega);rw[yL,show((z+1:Nat):Int)=(z:Int)+1 by omega] at cT;have tj:ah (wy=wr.alloc (M #[A I x0,A I x1,H x2,H x3,az x4,O x5 jT j7,A I x6,A I x7,A I x8,A I x9,H fS,O fR yF zh,O fQ yE zg,O fP yD ze,O fO yC zb] 109)):=fZ;have dD:ah (Bl v8 wy):=aH;clear h1 o hx g ib aH fZ yL;go_wp2_with fail;rw[<-tj.out];refine cT.mono ?_;rintro x w9 ⟨rfl,fI⟩
      have uU:ah (Bl v8 w9):=dD.trans (fI.mono dD.size);clear fI cT;cases Jx with
      | false=>
       have HF:ah (dB (eO (.mk 3 p (ba []) (ba []) ak [] e a b))=ak):=wE.out al[j] (fD dp) fun h=>(by have:=nE h;rw[qG.out] at this;cases this);go_wp2;go_ret;exact⟨congrArg (fun b=>jS (Value.bool b)) HF.symm,T.trans (uU.mono T.size)⟩
      | true=>
       have Mm:ah (∀i (h:i<al.length),i<j+1->eO al[i]):=fun i hi Sn=>by
        by_cases lq:i=j
        ·subst lq;apply Classical.byContradiction;intro iS;have:=nF iS;rw[qG.out] at this;cases this
        ·exact HJ.out i hi (by omega)
       go_wp2;go_roundw;case rel=>exact⟨j+1,by omega,by go_num,uU,Mm⟩
       case measure=>simp[intOf];omega
     ·as_aux_lemma=>
      have HF:ah (dB (eO (.mk 3 p (ba []) (ba []) ak [] e a b))=ap):=Mx.out (by first | rfl | trivial) fun x hx=>by
       obtain⟨i,hi,rfl⟩:=List.getElem_of_mem hx;exact HJ.out i hi (by have:=HN.out;omega)
      go_wp2;go_ret;exact⟨congrArg (fun b=>jS (Value.bool b)) HF.symm,T.trans (bQ.mono T.size)⟩
theorem amA (hs:ag.dG s=ap)(ho:ag.dG o=ap):tB (m+1) (.mk 6 p s o ak [] ag.qR [] []):=by
 have lO:∀(fn:Fn) (first ad:Av) (w:au),(Instr.makeFunc fn first ad).run prog w=.ok (.func fn first ad) w:=fun _ _ _ _=>rfl;have eg:=enters_of func110 (by kernel_rfl) rfl;intro w S ca E ha hx Ib;obtain⟨q,r,z0,z1,z2,G,L,R,Q,d5,X,N,d6,g,ac,j,k,rfl,ct,vC,kr,oS,cr,br⟩:=vj ha;obtain⟨rfl,rfl,rfl,rfl,rfl,rfl⟩:=ael oS;change aC prog 59 #[.agg #[A I 6,A I p,H s,H o,az ak,O q 0 r,A I 0,A I z1,A I 0,A I 0,H ⟨#[]⟩,O R 0 d5,O X 0 d6,O g 0 ac,O j 0 k],A I (E:Int)] w _;have HX:ah (xP w):=hx;have HL:ah (dw w S (O q 0 r) []):=kr;have HR:ah (bH bK w S 15 (O g 0 ac) []/\bH bK w S 15 (O j 0 k) []):=⟨cr,br⟩;have qJ:ah (dB (eO (.mk 6 p s o ak [] ag.qR [] []))=ap):=nE (nD.2 ⟨fun h=>absurd rfl h,(fun x hx=>by cases hx),(fun x hx=>by cases hx)⟩);have sW:E<=12:=(by omega);have Ie:decide ((12:Int)<(E:Int))=ak:=(by simp;omega);obtain⟨ti,BH⟩:∃b,decide ((11:Int)<(E:Int))=b:=⟨_,rfl⟩;obtain⟨v0,F⟩:=nm (w.alloc (M #[A I 6,A I p,H s,H o,az ak,O q 0 r,A I 0,A I z1,A I 0,A I 0,H ⟨#[]⟩,O R 0 d5,O X 0 d6,O g 0 ac,O j 0 k] 109));have ud:=am (eS F);have u:=am (aa F);clear ha hx kr oS cr br;have a:=dm u;have c:=J u;go_enter func59,ntmps59;go_upto_region 1 with fail
 rw[<-F];clear F
 go_cut [46] (fun vm wc=>vm=az ak/\v0=wc)
 case first=>
  cases ti<;>(go_wp2_with fail;go_meet;exact⟨rfl,rfl⟩)
 case rest=>
  obtain⟨rfl,rfl⟩:=hcut;clear a c BH;have a:=dm u;have c:=J u;obtain⟨v1,t⟩:=nm (v0.alloc (M #[A I 1,A I 2,A I 5,A I 6] 3));have ry:=an ud t;have gm:ah (v1.heap[w.heap.size]? =Z (M #[A I 6,A I p,H s,H o,az ak,O q 0 r,A I 0,A I z1,A I 0,A I 0,H ⟨#[]⟩,O R 0 d5,O X 0 d6,O g 0 ac,O j 0 k] 109)):=(by show _=_;rw[t];exact cR u);have d:=mG (ks:=[1,2,5,6]) (n:=4) t a.1 rfl (by decide);go_wp2_with fail;rw[<-t];clear t;refine d.mono ?_;rintro x wx ⟨rfl,rfl⟩;clear d a c;have a:=dm gm;have c:=J gm;have d:=(by have v:=tL (HX.later ry) ct;rw[hs] at v;exact v:aC prog 57 #[H s] v1 fun e y=>e=aE (az ap)/\Bl v1 y);go_wp2_with fail;refine d.mono ?_;rintro x v2 ⟨rfl,f⟩;have Gk:=bt ry f;have n9:=am ((f.block _ c).trans gm);clear d f a c;have a:=dm n9;have c:=J n9;obtain⟨v3,z⟩:=nm (v2.alloc (M #[A I 6] 3));have ki:=an Gk z;have j9:ah (v3.heap[w.heap.size]? =Z (M #[A I 6,A I p,H s,H o,az ak,O q 0 r,A I 0,A I z1,A I 0,A I 0,H ⟨#[]⟩,O R 0 d5,O X 0 d6,O g 0 ac,O j 0 k] 109)):=(by show _=_;rw[z];exact cR n9);have d:=mG (ks:=[6]) (n:=1) z a.1 rfl (by decide);go_wp2_with fail;rw[<-z];clear z;refine d.mono ?_;rintro x wx ⟨rfl,rfl⟩;clear d a c;have a:=dm j9;have c:=J j9;obtain⟨eb,Su⟩:=nm v3.heap.size;obtain⟨K,B⟩:=nm (v3.alloc (M #[A I 0,A I z1,A I 0,A I 0,H ⟨#[]⟩,O R 0 d5,O X 0 d6] 48));have pY:=an ki B;have mo:ah (K.heap[w.heap.size]? =Z (M #[A I 6,A I p,H s,H o,az ak,O q 0 r,A I 0,A I z1,A I 0,A I 0,H ⟨#[]⟩,O R 0 d5,O X 0 d6,O g 0 ac,O j 0 k] 109)):=(by show _=_;rw[B];exact cR j9);have ae:ah (K.heap[eb]? =Z (M #[A I 0,A I z1,A I 0,A I 0,H ⟨#[]⟩,O R 0 d5,O X 0 d6] 48)):=(by show _=_;rw[B,Su];exact cu _ _ _ rfl);go_upto_region 11 with fail
  rw[<-B,<-Su];clear B Su a c;have a:=dm mo;have c:=J mo;have P:=J ae;have d:aC prog 57 #[H o] K fun e y=>e=aE (az ap)/\Bl K y:=by
   have v:=tL (HX.later pY) vC;rw[ho] at v;exact v
  go_wp2_with fail;refine d.mono ?_;rintro x v5 ⟨rfl,f⟩;have lX:=bt pY f;have mm:=am ((f.block _ c).trans mo);have af:=am ((f.block _ P).trans ae);clear d f a c P;obtain⟨⟨f0,f1,f2,f3,f4,f5,f6⟩,_⟩:=fa af;have P:=J af;have a:=dm mm;have c:=J mm;obtain⟨T,C⟩:=nm (v5.alloc (M #[A I 7] 3));have V:=an lX C;have mK:ah (T.heap[w.heap.size]? =Z (M #[A I 6,A I p,H s,H o,az ak,O q 0 r,A I 0,A I z1,A I 0,A I 0,H ⟨#[]⟩,O R 0 d5,O X 0 d6,O g 0 ac,O j 0 k] 109)):=(by show _=_;rw[C];exact cR mm);have d:=mG (ks:=[7]) (n:=1) C a.1 rfl (by decide);go_wp2_with fail;rw[<-C];clear C;refine d.mono ?_;rintro x wx ⟨rfl,rfl⟩;clear d a c;clear f0 f1 f2 f3 f4 f5 f6 P;have a:=dm mK;have c:=J mK;have d:=(xG (S:=fun b=>S b/\b<w.heap.size) (HX.later V) ((HL.mono fun b f hl=>⟨f,hl⟩).keeps (⟨V.size,fun b h _=>V.block b h.2⟩:aP (fun b=>S b/\b<w.heap.size) w T)) rfl:aC prog 58 #[O q 0 r] T fun e y=>e=aE (az ap)/\Bl T y);go_wp2_with fail;refine d.mono ?_;rintro x v9 ⟨rfl,f⟩;have I6:=bt V f;have IS:=am ((f.block _ c).trans mK);clear d f a c;have a:=dm IS;have c:=J IS;obtain⟨⟨ai,⟨ro,rb,eA,vq,t,db⟩,dA,et⟩,⟨gd,⟨wW,rE,rD,GK,jL,fi⟩,eP,gL⟩⟩:=HR.out;obtain rfl:ai=[]:=List.length_eq_zero_iff.1 dA;obtain rfl:gd=[]:=List.length_eq_zero_iff.1 eP;simp only[List.length_nil,Value.slice.injEq,true_and] at t jL;obtain⟨rfl,rfl⟩:=t;obtain⟨rfl,rfl⟩:=jL;obtain⟨v7,W⟩:=nm (v9.alloc (M #[O g 0 ac,O j 0 k] 63));have lI:=an I6 W;have gv:=aa W;have mW:=FO v9.heap.size g j rb eA rE rD 0 0 ac k [] [] v7 rfl rfl (by decide) (by simp[aN,gv]) (by simp[aN,gv]) (J gv) ((ug (l:=[]) db rfl et).later lI) ((ug (l:=[]) fi rfl gL).later lI);clear db fi et gL dA eP gv;go_wp2_with fail;rw[<-W];clear W;refine mW.mono ?_;rintro x v8 ⟨ao,rfl,bF,f⟩;have oc:=bt lI f;obtain⟨uo,uc,rfl⟩:=nt bF;clear mW bF f a c;go_wp2
  go_loopw [173] (fun i wr=>i=A I 0/\wr=v8) (fun i _=>0)
  case atStart=>exact⟨rfl,rfl⟩
  case round=>
   obtain⟨rfl,rfl⟩:=hrel;go_wp2;go_ret;exact⟨congrArg (fun b=>jS (Value.bool b)) qJ.symm,oc.out⟩
theorem amI {s:aV}(h:ag.mj m s):ag.rZ m s->tB m s:=by
 induction h with
 | @EP m p s j l e d k n a=>
  intro c;cases c with
  | EP _ _ _ b=>
   cases j with
   | false=>
    obtain rfl:=n rfl;exact amF d a b
   | true=>exact amE d k a b
 | Eu d a=>
  intro c;cases c with
  | Eu _ b=>exact amB d a b
 | Be a hm f o q v g r=>
  intro c;cases c with
  | Be b _ _ _ i t=>exact amG a b hm f o (fun x hx=>g x hx (i x hx)) (fun x hx=>r x hx (t x hx))
 | Em a hm f q g=>
  intro c;cases c with
  | Em b _ _ i=>exact amz a b hm f (fun x hx=>g x hx (i x hx))
 | Ev d a=>
  intro c;cases c with
  | Ev _ b=>exact amC d a b
 | Gy d u=>
  intro _;exact amA d u
 | FL a=>
  intro c;cases c with
  | FL b=>exact amH a b
 | Ez a=>
  intro c;cases c with
  | Ez b=>exact amD a b
def EqM (a:cV):Prop:=∀(w:au) (S S':Np) (ca cb:Lv),fW w S a ca->fW w S' a cb->aC prog 20 #[.agg ca.toArray,.agg cb.toArray] w fun e w'=>e=aE (az ap)/\Bl w w'
theorem XU {a:cV}(h:fW w S a C):∃(b:Bt) (c:Int) (d:Oa) (e f:Nat),C=[H b,A I c,O d e f]:=by
 obtain⟨i,rfl,_,g⟩:=h;obtain⟨j,k,rfl⟩:=g.val;exact⟨_,_,_,_,_,rfl⟩
theorem anA {S':Np}{a:List cV}{C E:Value}(F:∀i (h:i<a.length),EqM a[i])(hA:bH fW w S 3 C a)(hB:bH fW w S' 3 E a):
 aC prog 21 #[C,E,.func (.func 20) #[] #[]] w fun e w'=>e=aE (az ap)/\Bl w w':=by
 obtain⟨ad,⟨ao,ab,bC,ac,rfl,n⟩,o,G⟩:=hA;obtain⟨gd,⟨bo,K,aW,bc,rfl,L⟩,s,N⟩:=hB;obtain⟨m,hm⟩:=nm a.length;have lj:m<=maxLen:=(by rw[hm,<-o];exact Nat.le_trans n.cap n.mx);have HK:=am F;have t:=am n;have u:=am L;have qI:=am G;have ua:=am N;have HM:=am hm;have lW:=am o;have su:=am s;have eg:=enters_of func20 (by kernel_rfl) rfl;rw[o,<-hm,s,<-hm];unfold maxLen at lj;clear F hm n L o s G N;go_enter func21,ntmps21;go_wp2;go_loopw [17] (fun i wr=>∃j:Nat,j<=m/\i=A I j/\ah (Bl w wr)) (fun i _=>m - (intOf i).toNat);case atStart=>exact⟨0,Nat.zero_le _,rfl,Below.refl _ _⟩
 case round=>
  obtain⟨j,hj,rfl,p⟩:=hrel;by_cases aK:j<m
  ·have g:j<a.length:=(by have:=HM.out;omega);have P:j<ad.length:=(by rw[lW.out];exact g);have Q:j<gd.length:=(by rw[su.out];exact g);obtain rfl:=t.dR (by omega);obtain rfl:=u.dR (by omega);have q:=qI.out j g P;have r:=ua.out j g Q;have k:=fun i v=>t.cell j P i v;have l:=fun i v=>u.cell j Q i v;have x:=t.lt (by omega);have y:=u.lt (by omega);have R:=HK.out j g;obtain⟨T,x1,x2,EK,FK,hx⟩:=XU q;obtain⟨V,v1,v2,RB,Ty,W⟩:=XU r;rw[hx] at q k;rw[W] at r l;obtain⟨c,_⟩:=oX p.out;have lw:=p.size;have p0:wr.cell? (Y ab (bC+j*3) U)=Z (H T):=(c _ _ x).trans (k 0 _ rfl);have q0:wr.cell? (Y K (aW+j*3) U)=Z (H V):=(c _ _ y).trans (l 0 _ rfl);have p1:=(c _ _ x).trans (k 1 _ rfl);have q1:=(c _ _ y).trans (l 1 _ rfl);have p2:=(c _ _ x).trans (k 2 _ rfl);have q2:=(c _ _ y).trans (l 2 _ rfl);obtain⟨wz,z⟩:=nm ((wr.alloc (M #[H T,A I x1,O x2 EK FK] 60)).alloc (M #[H V,A I v1,O v2 RB Ty] 60));have X:=lU z;have f:=p.trans (X.mono lw);have rT:=R wz (fun b=>S b/\b<w.heap.size) (fun b=>S' b/\b<w.heap.size) _ _ (ic.keeps (ic.mono q fun b d B=>⟨d,B⟩) ⟨f.size,fun b d _=>f.block b d.2⟩) (ic.keeps (ic.mono r fun b d B=>⟨d,B⟩) ⟨f.size,fun b d _=>f.block b d.2⟩);have dD:=am f;have kZ:=am z;have lr:ab<wr.heap.size:=(by omega);have oe:K<wr.heap.size:=(by omega);clear R q r k l hx W c X f z;go_wp2_with fail;rw[<-kZ.out];refine rT.mono ?_;rintro e w2 ⟨rfl,aT⟩;have kB:=bt dD aT;clear aT rT;go_wp2;go_roundw;case rel=>exact⟨j+1,by omega,by go_num,kB⟩
   case measure=>simp[intOf];omega
  ·obtain rfl:j=m:=(by omega);go_wp2;go_ret;exact⟨rfl,p.out⟩
end Go.Proofs.YtoiiahpdbcokaaaGreatDoor
