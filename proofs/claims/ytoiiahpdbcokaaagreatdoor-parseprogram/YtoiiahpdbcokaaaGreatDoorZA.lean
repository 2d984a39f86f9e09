/- Short words for what comes again and again. And more of the same. -/
import Derived.Test.YtoiiahpdbcokaaaGreatDoorProg
import Derived.Below
import Derived.WalkKit
import Derived.Lib.Strings
import Derived.Lib.IndexBytes
import Derived.WideShapes
import Derived.Lib.Atoi
import Derived.OwnWalk
import Derived.Maps.AppendAt
import Derived.Deep.QuietTactic
import Derived.Test.YtoiiahpdbcokaaaGreatDoorChecked
import Derived.ProofKit
import Derived.BigQuiet
import Derived.Deep.RegionHeld3
namespace Go.Proofs.YtoiiahpdbcokaaaGreatDoor
open Go.Value renaming int -> A, slice -> O, string -> H, pointer -> aB
open Go.IntKind renaming i64 -> I
open _root_.Option renaming none -> U, some -> Z
open Go.Addr renaming mk -> Y
open Go.Obj renaming cells -> M
open Go renaming lt_of_block -> J, World -> au, Value -> aw, Calls -> aC
open _root_.Nat renaming le_refl -> aD, lt_of_lt_of_le -> gD
open Go.Ending renaming returned -> aE, returned -> jS
open Go.RowKit.Below renaming refl -> aF, heap_setCell -> dL
open _root_.Array renaming getElem?_modify -> dM
open Go.World renaming cell? -> aN, setCell -> bw, cell?_of_block -> en
open _root_.Bool renaming false -> ak, true -> ap
open _root_.List renaming length_cons -> iz
open _root_.Go.Proofs.Tryz
set_option maxRecDepth 100000
set_option maxHeartbeats 8000000
open Go.RowKit
variable {B b e f V m n off p q rb X:Nat} {al bl c k W:Int} {v y:aw} {a K w w':au} {o N x:Obj}
abbrev Oa:=Option Addr
abbrev Lu:=List UInt8
abbrev Av:=Array aw
abbrev Lv:=List aw
abbrev Np:=Nat->Prop
abbrev Bt:=ByteArray
def Bl (w w':au):Prop:=Below w.heap.size w w'
theorem am {p:Prop}(h:p):Hid p:=h
theorem aj {p q:Prop}(a:p)(b:q):p/\q:=⟨a,b⟩
theorem nm {α:Type}(x:α):∃y,y=x:=⟨x,rfl⟩
namespace Lex
def mi (c:Int):Bool:=c==32 || c==9 || c==10
def kT (c:Int):Bool:=c !=10
def ej (c:Int):Bool:=decide (48<=c/\c<=57)
def gx (c:Int):Bool:=decide ((97<=c/\c<=122)\/(65<=c/\c<=90)\/c=95)
def dY (c:Int):Bool:=gx c || ej c
def bX (p:Int->Bool):Lu->Nat
 |[]=>0
 | c::r=>if p (c.toNat:Int) then bX p r+1 else 0
theorem wV (p:Int->Bool)(l:Lu):bX p l<=l.length:=by
 induction l with
 | nil=>simp[bX]
 | cons c r a=>simp only[bX,iz];split<;>omega
theorem QV (p:Int->Bool)(l:Lu)(k:Nat)(h:k<l.length):
 bX p (l.drop k)=if p ((l[k].toNat:Nat):Int) then bX p (l.drop (k+1))+1 else 0:=by
 rw[List.drop_eq_getElem_cons h];rfl
theorem afx (p:Int->Bool)(l:Lu)(k:Nat)(h:l.length<=k):bX p (l.drop k)=0:=by
 rw[List.drop_of_length_le h];rfl
theorem QS (p:Int->Bool)(s:Bt):RowKit.Hid (bX p s.data.toList=0+bX p (s.data.toList.drop 0)):=by
 show _=_;simp
theorem QP (p:Int->Bool)(s:Bt)(k:Nat)(h:k<s.size)(b:p ((s[k].toNat:Nat):Int)=ap)(c:RowKit.Hid (bX p s.data.toList=k+bX p (s.data.toList.drop k))):
 RowKit.Hid (bX p s.data.toList=(k+1)+bX p (s.data.toList.drop (k+1))):=by
 have a:k<s.data.toList.length:=(by simpa using h);have d:=QV p s.data.toList k a;have e:s.data.toList[k]'a=s[k]:=rfl;rw[e,b,if_pos rfl] at d;have:=c.out;show _=_;omega
theorem QT (p:Int->Bool)(s:Bt)(k:Nat)(h:k<s.size)(b:p ((s[k].toNat:Nat):Int)=ak)(c:RowKit.Hid (bX p s.data.toList=k+bX p (s.data.toList.drop k))):
 RowKit.Hid (bX p s.data.toList=k):=by
 have a:k<s.data.toList.length:=(by simpa using h);have d:=QV p s.data.toList k a;have e:s.data.toList[k]'a=s[k]:=rfl;rw[e,b,if_neg (by simp)] at d;have:=c.out;show _=_;omega
theorem QR (p:Int->Bool)(s:Bt)(k:Nat)(h:s.size<=k)(a:RowKit.Hid (bX p s.data.toList=k+bX p (s.data.toList.drop k))):
 RowKit.Hid (bX p s.data.toList=k):=by
 have b:=afx p s.data.toList k (by simpa using h);have:=a.out;show _=_;omega
def i8 (l:Lu):Bool:=l==[99,104,105,101,102] || l==[97,99,116,115] || l==[105,110] || l==[111,117,116] || l==[112,114,111,99] || l==[98,101,103,105,110] || l==[102,111,114] || l==[118,97,114] || l==[105,102] || l==[101,108,115,101] || l==[119,104,105,108,101] || l==[115,101,110,100] || l==[116,97,107,101] || l==[100,111] || l==[114,101,116,117,114,110] || l==[114,101,108,101,97,115,101] || l==[116,111] || l==[105,110,116] || l==[98,111,111,108] || l==[116,114,117,101] || l==[102,97,108,115,101]
theorem adB {l v:Lu}(h:(l==v)=ap)(a:i8 v=ap):i8 l=ap:=by rw[eq_of_beq h];exact a
def sM (l:Lu):Int×Lu×Int:=if 12<l.length then(0,[],2) else if i8 l then(3,l,0) else(1,l,0)
def pM (l:Lu):Int×Lu×Int:=if 9<l.length\/(1<l.length/\l.head? =Z 48) then(0,[],3) else(2,l,0)
def mO (l:Lu):Bool:=l==[38,38] || l==[124,124] || l==[61,61] || l==[33,61] || l==[60,61] || l==[62,61]
def rG (c:Int):Bool:=c==43 || c==45 || c==42 || c==47 || c==37 || c==60 || c==62 || c==33 || c==40 || c==41 || c==123 || c==125 || c==44 || c==59 || c==58 || c==61
def c0 (l:Lu):Int:=((l.headD 0).toNat:Int)
def jp (l:Lu):Lu:=if mO (l.take 2) then l.take 2 else if rG (c0 l) then l.take 1 else[]
def iF (l:Lu):Int×Lu×Int:=
 if gx (c0 l) then sM (l.take (bX dY l)) else if ej (c0 l) then pM (l.take (bX ej l)) else if(jp l).isEmpty then(0,[],1) else(4,jp l,0)
def dJ:Bool->Lu->Nat
 | _,[]=>0
 | true,c::r=>if kT (c.toNat:Int) then dJ ap r+1 else dJ ak r+1
 | false,c::r=>if mi (c.toNat:Int) then dJ ak r+1 else if((c.toNat:Int)==35) then dJ ap r+1 else 0
theorem amq (l:Lu):dJ ap l=bX kT l+dJ ak (l.drop (bX kT l)):=by
 induction l with
 | nil=>rfl
 | cons c r a=>
  simp only[dJ,bX];cases h:kT (c.toNat:Int)
  ·have b:mi (c.toNat:Int)=ap:=(by simp[kT] at h;simp[mi,h]);simp[dJ,b]
  ·simp[a];omega
theorem amr (b:Bool)(l:Lu):dJ b l<=l.length:=by
 induction l generalizing b with
 | nil=>cases b<;>simp[dJ]
 | cons c r a=>
  have d:=a ap;have e:=a ak;cases b<;>simp only[dJ,iz]<;>(repeat' split)<;>omega
theorem aaX (l:Lu)(k:Nat)(h:k<l.length)(a:mi ((l[k].toNat:Nat):Int)=ap):dJ ak (l.drop k)=dJ ak (l.drop (k+1))+1:=by
 rw[List.drop_eq_getElem_cons h];simp only[dJ,a,if_true]
theorem aaW (l:Lu)(k:Nat)(h:k<l.length)(b:mi ((l[k].toNat:Nat):Int)=ak)(a:(((l[k].toNat:Nat):Int)==35)=ap):
 dJ ak (l.drop k)=bX kT (l.drop k)+dJ ak (l.drop (k+bX kT (l.drop k))):=by
 rw[<-List.drop_drop,List.drop_eq_getElem_cons h];have c:kT ((l[k].toNat:Nat):Int)=ap:=(by rw[eq_of_beq a];rfl);simp only[dJ,b,a,if_true,bX,c,amq (l.drop (k+1)),List.drop_succ_cons];simp;omega
theorem aaV (l:Lu)(k:Nat)(h:k<l.length)(a:mi ((l[k].toNat:Nat):Int)=ak)(b:(((l[k].toNat:Nat):Int)==35)=ak):dJ ak (l.drop k)=0:=by
 rw[List.drop_eq_getElem_cons h];simp[dJ,a,b]
theorem Ti (l:Lu)(k:Nat)(h:l.length<=k):dJ ak (l.drop k)=0:=by
 rw[List.drop_of_length_le h];rfl
end Lex
section
namespace Lex
open Go
theorem adV (s:Bt)(l:Lu)(h:s.data.toList=l):s=⟨l.toArray⟩:=by
 subst h;rfl
theorem abi (s:Bt)(a b:Nat):s.extract a b=⟨((s.data.toList.drop a).take (b - a)).toArray⟩:=adV _ _ (Lib.extract_data s a b)
theorem head_eq (s:Bt)(b:Nat):s.extract 0 b=⟨(s.data.toList.take b).toArray⟩:=by rw[abi];simp
theorem yh (s:Bt)(a:Nat):(s.extract a s.size).data.toList=s.data.toList.drop a:=Lib.extract_to_end s a
theorem jU (s:Bt):s.toList=s.data.toList:=ByteArray.toList_eq s
theorem df (s:Bt):s.data.toList.length=s.size:=by simp
theorem aml (s:Bt)(k:Nat)(h:k<s.size):s.data.toList=s.data.toList.take k++s[k]::s.data.toList.drop (k+1):=by
 have a:k<s.data.toList.length:=(by simpa using h);rw[show s[k]=s.data.toList[k] from rfl,<-List.drop_eq_getElem_cons a,List.take_append_drop]
theorem Pi (s:Bt)(h:0<s.size):s.data.toList=s[0]::s.data.toList.drop 1:=by simpa using aml s 0 h
theorem XX {v:Int}(h:(c==v)=ap)(a:rG v=ap):rG c=ap:=by rw[eq_of_beq h];exact a
theorem aea {l v:Lu}(h:(l==v)=ap)(a:mO v=ap):mO l=ap:=by rw[eq_of_beq h];exact a
theorem WH {l:Lu}(a:(l==[38,38])=ak)(b:(l==[124,124])=ak)(c:(l==[61,61])=ak)(d:(l==[33,61])=ak)(e:(l==[60,61])=ak)(f:(l==[62,61])=ak):mO l=ak:=by simp only[mO,a,b,c,d,e,f,Bool.or_self]
theorem XY (a:(c==43)=ak)(b:(c==45)=ak)(d:(c==42)=ak)(e:(c==47)=ak)(f:(c==37)=ak)(g:(c==60)=ak)(h:(c==62)=ak)(i:(c==33)=ak)(j:(c==40)=ak)(k:(c==41)=ak)(l:(c==123)=ak)(m:(c==125)=ak)(n:(c==44)=ak)(o:(c==59)=ak)(p:(c==58)=ak)(q:(c==61)=ak):rG c=ak:=by simp only[rG,a,b,d,e,f,g,h,i,j,k,l,m,n,o,p,q,Bool.or_self]
theorem Rn {b:Bool}(h:b=ap)(k:b=ak):False:=by rw[h] at k;cases k
theorem MX (s:Bt):(s.extract 0 2).toList=s.data.toList.take 2:=by rw[jU,Lib.extract_data];simp
theorem aeb (s:Bt)(h:¬1<s.size):mO (s.extract 0 2).toList=ak:=by
 rw[MX];have b:s.data.toList.length<=1:=by rw[df];omega
 match s.data.toList,b with
 |[],_=>rfl
 |[a],_=>simp[mO]
theorem LF (s:Bt)(h:0<s.size):c0 s.data.toList=((s[0].toNat:Nat):Int):=by
 rw[Pi s h];rfl
theorem aeS {s:Bt}(h:mO (s.extract 0 2).toList=ap):jS (H (s.extract 0 2))=aE (H ⟨(jp s.data.toList).toArray⟩):=by
 rw[MX] at h;rw[head_eq];unfold jp;rw[if_pos h]
theorem sign_one {s:Bt}(b:0<s.size)(a:mO (s.extract 0 2).toList=ak)(h:rG ((s[0].toNat:Nat):Int)=ap):jS (H (s.extract 0 1))=aE (H ⟨(jp s.data.toList).toArray⟩):=by
 rw[MX] at a;rw[head_eq];unfold jp;rw[if_neg (by simp[a]),LF s b,if_pos h]
theorem WZ {s:Bt}(b:0<s.size)(a:mO (s.extract 0 2).toList=ak)(h:rG ((s[0].toNat:Nat):Int)=ak):jS (H ⟨#[]⟩)=aE (H ⟨(jp s.data.toList).toArray⟩):=by
 rw[MX] at a;unfold jp;rw[if_neg (by simp[a]),LF s b,if_neg (by simp[h])]
end Lex
end
section
namespace Lex
open Go
def FW (r:Int×Lu×Int):Ending:=aE (.tuple #[A I r.1,H ⟨r.2.1.toArray⟩,A I r.2.2])
theorem MT {r:Int×Lu×Int}(h:r=(0,[],c)):jS (.tuple #[A I 0,H ⟨#[]⟩,A I c])=FW r:=by rw[h];rfl
theorem MS {r:Int×Lu×Int}{s:Bt}(h:r=(k,s.data.toList,0)):jS (.tuple #[A I k,H s,A I 0])=FW r:=by rw[h];rfl
theorem YL {s:Bt}(h:12<s.size):sM s.data.toList=(0,[],2):=by unfold sM;rw[if_pos (by rw[df];exact h)]
theorem YJ {s:Bt}(h:¬12<s.size)(a:i8 s.toList=ap):sM s.data.toList=(3,s.data.toList,0):=by
 rw[jU] at a;unfold sM;rw[if_neg (by rw[df];exact h),if_pos a]
theorem YK {s:Bt}(h:¬12<s.size)(a:i8 s.toList=ak):sM s.data.toList=(1,s.data.toList,0):=by
 rw[jU] at a;unfold sM;rw[if_neg (by rw[df];exact h),if_neg (by simp[a])]
theorem aaE (s:Bt)(h:0<s.size):s.data.toList.head? =Z s[0]:=by rw[Pi s h];rfl
theorem anU {s:Bt}(h:9<s.size):pM s.data.toList=(0,[],3):=by unfold pM;rw[if_pos (.inl (by rw[df];exact h))]
theorem anT {s:Bt}(h:1<s.size)(a:(((s[0].toNat:Nat):Int)==48)=ap):pM s.data.toList=(0,[],3):=by
 unfold pM;have b:s[0]=48:=UInt8.toNat_inj.1 (by have:=eq_of_beq a;simp;omega);rw[if_pos (.inr ⟨by rw[df];exact h,by rw[aaE s (by omega),b]⟩)]
theorem anR {s:Bt}(b:¬9<s.size)(h:1<s.size)(c:(((s[0].toNat:Nat):Int)==48)=ak):pM s.data.toList=(2,s.data.toList,0):=by
 unfold pM;rw[if_neg];rw[df,aaE s (by omega)];rintro(a |⟨_,a⟩)
 ·exact b a
 ·simp at a;simp[a] at c
theorem anS {s:Bt}(h:¬1<s.size):pM s.data.toList=(2,s.data.toList,0):=by
 unfold pM;rw[if_neg];rw[df];rintro(a |⟨a,_⟩)<;>omega
theorem O0 {l:Lu}(h:gx (c0 l)=ap):iF l=sM (l.take (bX dY l)):=by unfold iF;rw[if_pos h]
theorem OZ {l:Lu}(h:gx (c0 l)=ak)(a:ej (c0 l)=ap):iF l=pM (l.take (bX ej l)):=by unfold iF;rw[if_neg (by simp[h]),if_pos a]
theorem Tn {l:Lu}(h:gx (c0 l)=ak)(a:ej (c0 l)=ak)(b:jp l=[]):iF l=(0,[],1):=by
 unfold iF;rw[if_neg (by simp[h]),if_neg (by simp[a]),b];rfl
theorem Ln {l:Lu}(h:gx (c0 l)=ak)(a:ej (c0 l)=ak)(b:¬jp l=[]):iF l=(4,jp l,0):=by
 unfold iF;rw[if_neg (by simp[h]),if_neg (by simp[a]),if_neg (by simpa using b)]
theorem afp (p:Int->Bool)(s:Bt)(h:0<s.size)(a:p ((s[0].toNat:Nat):Int)=ap):0<bX p s.data.toList:=by
 rw[Pi s h];simp[bX,a]
end Lex
end
section
namespace Lex
open Go
theorem GF (p:Int->Bool)(l:Lu)(h:p (c0 l)=ap)(a:l≠[]):0<bX p l:=by
 match l,a with
 | c::r,_=>simp only[c0,List.headD_cons] at h;simp[bX,h]
theorem MW {l:Lu}(h:n<=l.length):l.take n=l.take (l.take n).length:=by
 rw[List.length_take,Nat.min_eq_left h]
theorem RK {l t:Lu}(h:sM l=(k,t,0)):k≠0/\t=l:=by
 unfold sM at h;split at h
 ·simp at h
 ·split at h<;>· simp only[Prod.mk.injEq] at h;exact⟨by omega,h.2.1.symm⟩
theorem Pb {l t:Lu}(h:pM l=(k,t,0)):k≠0/\t=l:=by
 unfold pM at h;split at h
 ·simp at h
 ·simp only[Prod.mk.injEq] at h;exact⟨by omega,h.2.1.symm⟩
theorem aec {l:Lu}(h:mO (l.take 2)=ap):2<=l.length:=by
 match l with
 |[]=>simp[mO] at h
 |[a]=>simp[mO] at h
 | a::b::r=>simp
theorem ahN {l:Lu}(h:rG (c0 l)=ap):1<=l.length:=by
 match l with
 |[]=>exact absurd h (by decide)
 | a::r=>simp
theorem aeU (l:Lu):jp l=l.take (jp l).length:=by
 unfold jp;split
 ·rename_i h;exact MW (aec h)
 ·split
  ·rename_i h;exact MW (ahN h)
  ·simp
theorem OY {l t:Lu}(h:iF l=(k,t,0))(g:l≠[]):k≠0/\0<t.length/\t=l.take t.length/\t.length<=l.length:=by
 have c:k≠0/\0<t.length/\t=l.take t.length:=by
  unfold iF at h;split at h
  ·rename_i e;obtain⟨d,b⟩:=RK h;have j:=GF dY l (by simp[dY,e]) g;have f:=wV dY l;refine⟨d,by rw[b,List.length_take];omega,?_⟩;rw[b];exact MW f
  ·split at h
   ·rename_i e i;obtain⟨d,b⟩:=Pb h;have j:=GF ej l i g;have f:=wV ej l;refine⟨d,by rw[b,List.length_take];omega,?_⟩;rw[b];exact MW f
   ·split at h
    ·simp at h
    ·rename_i e i m;simp only[Prod.mk.injEq] at h;obtain⟨d,b,_⟩:=h;subst b;refine⟨by omega,?_,aeU l⟩;cases hh:jp l with
     | nil=>simp[hh] at m
     | cons a r=>simp
 refine⟨c.1,c.2.1,c.2.2,?_⟩;have n:=congrArg List.length c.2.2;rw[List.length_take] at n;omega
def mu (l:Lu)(p:Nat):Int×Nat×Lu×Int×Nat:=
 if p+dJ ak (l.drop p)=l.length then(0,l.length,[],0,l.length) else
  if(iF (l.drop (p+dJ ak (l.drop p)))).2.2=0 then((iF (l.drop (p+dJ ak (l.drop p)))).1,p+dJ ak (l.drop p),(iF (l.drop (p+dJ ak (l.drop p)))).2.1,0,p+dJ ak (l.drop p)+(iF (l.drop (p+dJ ak (l.drop p)))).2.1.length)
  else(0,p+dJ ak (l.drop p),[],(iF (l.drop (p+dJ ak (l.drop p)))).2.2,p+dJ ak (l.drop p))
theorem step_end {l:Lu}(a:p+dJ ak (l.drop p)=q)(h:q=l.length):mu l p=(0,q,[],0,q):=by
 subst a;unfold mu;rw[if_pos h,h]
theorem MY {l t:Lu}(a:p+dJ ak (l.drop p)=q)(h:q≠l.length)(hf:iF (l.drop q)=(k,t,0)):mu l p=(k,q,t,0,q+t.length):=by
 subst a;unfold mu;rw[if_neg h,hf];simp
theorem Es {l t:Lu}(a:p+dJ ak (l.drop p)=q)(h:q≠l.length)(hf:iF (l.drop q)=(k,t,c))(b:c≠0):mu l p=(0,q,[],c,q):=by
 subst a;unfold mu;rw[if_neg h,hf];simp[b]
theorem Th (l:Lu)(p:Nat)(h:p<=l.length):p+dJ ak (l.drop p)<=l.length:=by
 have:=amr ak (l.drop p);rw[List.length_drop] at this;omega
end Lex
end
section
namespace Lex
open Go
abbrev Tok:=Int×Nat×Lu
def lZ (l:Lu):Nat->Nat->List Tok->List Tok×Int×Nat
 | 0,_,_=>([],0,0)
 | f+1,p,acc=>
  if(mu l p).2.2.2.1=0 then
   if(mu l p).1=0 then(acc,0,0)
   else if acc.length=600 then([],2,(mu l p).2.1)
   else lZ l f (mu l p).2.2.2.2 (acc++[((mu l p).1,(mu l p).2.1,(mu l p).2.2.1)])
  else([],(mu l p).2.2.2.1,(mu l p).2.1)
def jK (l:Lu):List Tok×Int×Nat:=if 4000<l.length then([],2,0) else lZ l (l.length+1) 0 []
theorem QL {l:Lu}(h:4000<l.length):jK l=([],2,0):=by unfold jK;rw[if_pos h]
theorem QM {l:Lu}(h:¬4000<l.length):jK l=lZ l (l.length+1) 0 []:=by unfold jK;rw[if_neg h]
theorem Jt {l t:Lu}{acc:List Tok}(h:mu l p=(0,q,t,0,n)):lZ l (f+1) p acc=(acc,0,0):=by
 simp[lZ,h]
theorem Ex {l t:Lu}{acc:List Tok}(h:mu l p=(k,q,t,c,n))(a:c≠0):lZ l (f+1) p acc=([],c,q):=by
 simp[lZ,h,a]
theorem M2 {l t:Lu}{acc:List Tok}(h:mu l p=(k,q,t,0,n))(a:k≠0)(b:acc.length=600):lZ l (f+1) p acc=([],2,q):=by
 simp[lZ,h,a,b]
theorem M1 {l t:Lu}{acc:List Tok}(h:mu l p=(k,q,t,0,n))(a:k≠0)(b:¬acc.length=600):lZ l (f+1) p acc=lZ l f n (acc++[(k,q,t)]):=by
 simp[lZ,h,a,b]
def cellsOf (l:List Tok):Lv:=l.flatMap fun t=>[A I t.1,A I (t.2.1:Int),H ⟨t.2.2.toArray⟩]
theorem abR (l:List Tok)(t:Tok):cellsOf (l++[t])=cellsOf l++[A I t.1,A I (t.2.1:Int),H ⟨t.2.2.toArray⟩]:=by simp[cellsOf]
def placeOf (w:au)(b:Nat):Nat:=match w.cell? (Y b 0 U) with | some (A _ n)=>n.toNat | _=>0
theorem CG {t:Nat}(h:w.heap[b]? =Z (M #[A I (p:Int)] t)):placeOf w b=p:=by
 simp[placeOf,aN,h]
end Lex
end
namespace ag
abbrev Tok:=Lex.Tok
abbrev Po:=Bt×List Bt
inductive Tr where
 | mk (k p n t:Int) (s:Bt) (l:List Po) (a:List Tr)
inductive aA (α:Type) where
 | ok (a:α) (r:List Tok)
 | no (c:Int) (q:Nat)
def aA.bind {α β:Type}:aA α->(α->List Tok->aA β)->aA β
 | .ok a r,f=>f a r
 | .no c q,_=>.no c q
theorem aQ {α d:Type}{x:aA α}{f:α->List Tok->aA d}{b:d}{r:List Tok}(h:x.bind f=.ok b r):∃a s,x=.ok a s/\f a s=.ok b r:=by
 cases x with
 | ok a s=>exact⟨a,s,rfl,h⟩
 | no c q=>cases h
def nx:List Tok->Tok
 |[]=>(0,0,[])
 | t::_=>t
def bI (e:Nat):List Tok->Nat
 |[]=>e
 | t::_=>t.2.1
def aO (s:Lu)(ts:List Tok):Bool:=(nx ts).2.2==s
def ba (l:Lu):Bt:=⟨l.toArray⟩
def aR (e:Nat)(s:Lu)(ts:List Tok):aA Nat:=if aO s ts=ap then .ok (nx ts).2.1 ts.tail else .no 1 (bI e ts)
def bR (e:Nat)(ts:List Tok):aA Bt:=if(nx ts).1=1 then .ok (ba (nx ts).2.2) ts.tail else .no 1 (bI e ts)
def dU {α:Type}(e:Nat)(s:Lu)(P:List Tok->aA α):Nat->List α->List Tok->aA (List α)
 | 0,acc,ts=>if aO s ts=ap then .no 2 (bI e ts) else .ok acc ts
 | m+1,acc,ts=>if aO s ts=ap then(P ts.tail).bind fun a r=>dU e s P m (acc++[a]) r else .ok acc ts
def dT {α:Type}(e:Nat)(s:Lu)(m:Nat)(P:List Tok->aA α)(ts:List Tok):aA (List α):=
 (P ts).bind fun a r=>dU e s P (m - 1) [a] r
def ei {α:Type}(e:Nat)(o s c:Lu)(m:Nat)(P:List Tok->aA α)(ts:List Tok):aA (List α):=
 (aR e o ts).bind fun _ r=>(if aO c r=ap then aA.ok [] r else dT e s m P r).bind fun l r2=>(aR e c r2).bind fun _ r3=>.ok l r3
def mQ (e:Nat)(ts:List Tok):aA Po:=
 (bR e ts).bind fun o r=>(aR e [58] r).bind fun _ r2=>if(nx r2).1=1 then(dT e [44] 6 (bR e) r2).bind fun l r3=>.ok (o,l) r3 else .ok (o,[]) r2
def fX (e:Nat)(ts:List Tok):aA (List Po):=ei e [123] [59] [125] 200 (mQ e) ts
def dW (s:Lu):Nat:=
 if s∈[[124,124]] then 1 else if s∈[[38,38]] then 2 else if s∈[[61,61],[33,61],[60],[60,61],[62],[62,61]] then 3 else if s∈[[43],[45]] then 4 else if s∈[[42],[47],[37]] then 5 else 0
theorem JP:dW []=0:=by decide
def eK (t:Tok)(a:List Tr):Tr:=.mk 3 t.2.1 0 0 (ba t.2.2) [] a
def ja (Q:List Tok->aA Tr)(lv:Nat):Nat->Tr->List Tok->aA Tr
 | 0,x,ts=>.ok x ts
 | f+1,x,ts=>if dW (nx ts).2.2=lv then(Q ts.tail).bind fun y r=>ja Q lv f (eK (nx ts) [x,y]) r else .ok x ts
def bd (P:List Tok->aA Tr):Nat->List Tok->aA Tr
 | 0,ts=>P ts
 | j+1,ts=>(bd P j ts).bind fun x r=>ja (bd P j) (5 - j) r.length x r
def wY (l:Lu):Int:=(Lib.atoi l).getD 0
def qS (e:Nat)(E:List Tok->aA Tr)(ts:List Tok):aA Tr:=
 if aO [40] ts.tail=ap then(ei e [40] [44] [41] 4 E ts.tail).bind fun a r=>.ok (.mk 4 (nx ts).2.1 0 0 (ba (nx ts).2.2) [] a) r
 else .ok (.mk 2 (nx ts).2.1 0 0 (ba (nx ts).2.2) [] []) ts.tail
def qd (e:Nat)(E:List Tok->aA Tr)(ts:List Tok):aA Tr:=
 (aR e [40] ts.tail).bind fun _ r1=>(E r1).bind fun x r2=>(aR e [116,111] r2).bind fun _ r3=>(fX e r3).bind fun l r4=>(aR e [41] r4).bind fun _ r5=>.ok (.mk 5 (nx ts).2.1 0 0 (ba []) l [x]) r5
def EU (e:Nat)(E:List Tok->aA Tr)(ts:List Tok):aA Tr:=
 (aR e [40] ts).bind fun _ r1=>(E r1).bind fun x r2=>(aR e [41] r2).bind fun _ r3=>.ok x r3
def gE (e:Nat)(E P:List Tok->aA Tr)(ts:List Tok):aA Tr:=
 if(nx ts).1=2 then .ok (.mk 1 (nx ts).2.1 (wY (nx ts).2.2) 1 (ba []) [] []) ts.tail
 else if(nx ts).1=1 then qS e E ts
 else if(nx ts).2.2=[114,101,108,101,97,115,101] then qd e E ts
 else if(nx ts).2.2=[45]\/(nx ts).2.2=[33] then(P ts.tail).bind fun x r=>.ok (eK (nx ts) [x]) r
 else if(nx ts).2.2=[116,114,117,101] then .ok (.mk 1 (nx ts).2.1 1 2 (ba []) [] []) ts.tail
 else if(nx ts).2.2=[102,97,108,115,101] then .ok (.mk 1 (nx ts).2.1 0 2 (ba []) [] []) ts.tail
 else EU e E ts
def wX (e:Nat):Nat->List Tok->aA Tr
 | 0,ts=>.no 2 (bI e ts)
 | k+1,ts=>gE e (bd (wX e k) 5) (wX e k) ts
def fp (e k:Nat):List Tok->aA Tr:=bd (wX e k) 5
def du {α:Type}(P:List Tok->aA α):Prop:=∀ts a r,P ts=.ok a r->r<:+ts
theorem jJ (ts:List Tok):ts.tail<:+ts:=List.tail_suffix ts
theorem gZ (e:Nat)(s:Lu):du (aR e s):=by
 intro ts a r h;unfold aR at h;split at h
 ·cases h;exact jJ ts
 ·cases h
theorem iJ (e:Nat):du (bR e):=by
 intro ts a r h;unfold bR at h;split at h
 ·cases h;exact jJ ts
 ·cases h
theorem ajk {α:Type}{s:Lu}{P:List Tok->aA α}(c:du P):∀m acc,du (dU e s P m acc):=by
 intro m;induction m with
 | zero=>
  intro acc ts a r h;unfold dU at h;split at h
  ·cases h
  ·cases h;exact List.suffix_refl _
 | succ m d=>
  intro acc ts a r h;unfold dU at h;split at h
  ·obtain⟨b,i,f,g⟩:=aQ h;exact((d _ _ _ _ g).trans (c _ _ _ f)).trans (jJ ts)
  ·cases h;exact List.suffix_refl _
theorem RF {α:Type}{s:Lu}{P:List Tok->aA α}(c:du P):du (dT e s m P):=by
 intro ts a r h;obtain⟨b,g,d,f⟩:=aQ h;exact(ajk c _ _ _ _ _ f).trans (c _ _ _ d)
theorem Dm {α:Type}{o s c:Lu}{P:List Tok->aA α}(f:du P):du (ei e o s c m P):=by
 intro ts a r h;obtain⟨b,p,g,i⟩:=aQ h;obtain⟨l,v,d,j⟩:=aQ i;obtain⟨q,t,k,n⟩:=aQ j;cases n;refine((gZ _ _ _ _ _ k).trans ?_).trans (gZ _ _ _ _ _ g);split at d
 ·cases d;exact List.suffix_refl _
 ·exact RF f _ _ _ d
theorem XE (e:Nat):du (mQ e):=by
 intro ts a r h;obtain⟨b,k,d,f⟩:=aQ h;obtain⟨l,v,g,c⟩:=aQ f;refine List.IsSuffix.trans ?_ ((gZ _ _ _ _ _ g).trans (iJ _ _ _ _ d));split at c
 ·obtain⟨m,n,i,j⟩:=aQ c;cases j;exact RF (iJ e) _ _ _ i
 ·cases c;exact List.suffix_refl _
theorem JV (e:Nat):du (fX e):=fun ts a r h=>Dm (XE e) ts a r h
theorem ajb {Q:List Tok->aA Tr}{lv:Nat}(c:du Q):∀f x,du (ja Q lv f x):=by
 intro f;induction f with
 | zero=>intro x ts a r h;cases h;exact List.suffix_refl _
 | succ f d=>
  intro x ts a r h;unfold ja at h;split at h
  ·obtain⟨b,i,e,g⟩:=aQ h;exact((d _ _ _ _ g).trans (c _ _ _ e)).trans (jJ ts)
  ·cases h;exact List.suffix_refl _
theorem Du {P:List Tok->aA Tr}(d:du P):∀j,du (bd P j):=by
 intro j;induction j with
 | zero=>exact d
 | succ j c=>
  intro ts a r h;obtain⟨b,g,e,f⟩:=aQ h;exact(ajb c _ _ _ _ _ f).trans (c _ _ _ e)
theorem aim {E:List Tok->aA Tr}(c:du E):du (qS e E):=by
 intro ts a r h;unfold qS at h;split at h
 ·obtain⟨b,g,d,f⟩:=aQ h;cases f;exact(Dm c _ _ _ d).trans (jJ ts)
 ·cases h;exact jJ ts
theorem akP {E:List Tok->aA Tr}(c:du E):du (EU e E):=by
 intro ts a r h;obtain⟨b,m,d,f⟩:=aQ h;obtain⟨l,v,g,i⟩:=aQ f;obtain⟨n,o,j,k⟩:=aQ i;cases k;exact((gZ _ _ _ _ _ j).trans (c _ _ _ g)).trans (gZ _ _ _ _ _ d)
theorem afD {E:List Tok->aA Tr}(b:du E):du (qd e E):=by
 intro ts a r h;obtain⟨_,j,c,h⟩:=aQ h;obtain⟨_,k,d,h⟩:=aQ h;obtain⟨_,l,f,h⟩:=aQ h;obtain⟨_,m,g,h⟩:=aQ h;obtain⟨_,n,i,h⟩:=aQ h;cases h;exact((((gZ _ _ _ _ _ i).trans (JV _ _ _ _ g)).trans (gZ _ _ _ _ _ f)).trans (b _ _ _ d)).trans ((gZ _ _ _ _ _ c).trans (jJ ts))
theorem agA {E P:List Tok->aA Tr}(c:du E)(d:du P):du (gE e E P):=by
 intro ts a r h;unfold gE at h;split at h
 ·cases h;exact jJ ts
 split at h
 ·exact aim c _ _ _ h
 split at h
 ·exact afD c _ _ _ h
 split at h
 ·obtain⟨b,i,f,g⟩:=aQ h;cases g;exact(d _ _ _ f).trans (jJ ts)
 split at h
 ·cases h;exact jJ ts
 split at h
 ·cases h;exact jJ ts
 exact akP c _ _ _ h
theorem CF (e:Nat):∀k,du (wX e k):=by
 intro k;induction k with
 | zero=>intro ts a r h;cases h
 | succ k b=>exact agA (Du b 5) b
theorem xI (e k:Nat):du (fp e k):=Du (CF e k) 5
theorem ajd {Q:List Tok->aA Tr}{lv:Nat}(a:du Q)(i:0<lv):∀f g x ts,ts.length<=f->ts.length<=g->ja Q lv f x ts=ja Q lv g x ts:=by
 have U:∀g x,ja Q lv g x []=.ok x []:=by
  intro g x;cases g with
  | zero=>rfl
  | succ g=>unfold ja;rw[if_neg];show ¬dW []=lv;rw[JP];omega
 intro f;induction f with
 | zero=>
  intro g x ts b d;have:ts=[]:=List.length_eq_zero_iff.1 (by omega);subst this;rw[U,U]
 | succ f e=>
  intro g x ts b d;cases g with
  | zero=>
   have:ts=[]:=List.length_eq_zero_iff.1 (by omega);subst this;rw[U,U]
  | succ g=>
   unfold ja;split
   ·cases hq:Q ts.tail with
    | no c q=>rfl
    | ok y r=>
     have h:=(a _ _ _ hq).length_le;rw[List.length_tail] at h;show ja Q lv f _ r=ja Q lv g _ r;exact e g _ _ (by omega) (by omega)
   ·rfl
end ag
open ag (Tok Po Tr)
structure aP (S:Np)(w w':au):Prop where
 size:w.heap.size<=w'.heap.size
 block:∀b,S b->b<w.heap.size->w'.heap[b]? =w.heap[b]?
theorem aP.refl (S:Np)(w:au):aP S w w:=⟨aD _,fun _ _ _=>rfl⟩
theorem aP.trans {S:Np}{b c:au}(h:aP S a b)(k:aP S b c):aP S a c:=
 ⟨Nat.le_trans h.size k.size,fun i d e=>(k.block i d (gD e h.size)).trans (h.block i d e)⟩
theorem aP.bm {S:Np}(h:Bl w w'):aP S w w':=⟨h.size,fun b _ a=>h.block b a⟩
theorem aP.bP {S:Np}{row:Option Nat}(h:w.grownBy w' row)(a:∀b,S b->Z b≠row):aP S w w':=⟨h.size,fun b c d=>h.block b d (a b c)⟩
theorem aP.cell {S:Np}(h:aP S w w'){p:Addr}(a:S p.block)(b:p.block<w.heap.size):w'.cell? p=w.cell? p:=en (h.block _ a b)
structure qy (w:au)(S:Np)(sz:Nat)(ao:Oa)(b off n c:Nat)(css:List (Lv)):Prop where
 ln:n=css.length
 cap:n<=c
 mx:c<=maxLen
 dR:0<css.length->ao=Z (Y b off U)
 ok:0<css.length->S b
 pl:0<css.length->∃cs e,w.heap[b]? =Z (M cs e)
 A0:∀i (h:i<css.length),css[i].length=sz
 cell:∀i (h:i<css.length) j u,css[i][j]? =Z u->w.cell? (Y b (off+i*sz+j) U)=Z u
def gj (w:au)(S:Np)(sz:Nat)(v:aw)(css:List (Lv)):Prop:=∃ao b off c,v=O ao css.length c/\qy w S sz ao b off css.length c css
theorem qy.lt {S:Np}{sz:Nat}{a:Oa}{c:Nat}{css:List (Lv)}(h:qy w S sz a b off n c css)(d:0<css.length):b<w.heap.size:=by
 obtain⟨g,e,f⟩:=h.pl d;exact J f
theorem qy.keeps {S:Np}{sz:Nat}{a:Oa}{c:Nat}{css:List (Lv)}(h:qy w S sz a b off n c css)(k:aP S w w'):qy w' S sz a b off n c css:=
 ⟨h.ln,h.cap,h.mx,h.dR,h.ok,fun d=>by obtain⟨g,e,f⟩:=h.pl d;exact⟨g,e,(k.block _ (h.ok d) (J f)).trans f⟩,h.A0,fun i l j m o=>(k.cell (p:=(Y b _ U)) (h.ok (by omega)) (h.lt (by omega))).trans (h.cell i l j m o)⟩
theorem gj.keeps {S:Np}{sz:Nat}{css:List (Lv)}(h:gj w S sz v css)(k:aP S w w'):gj w' S sz v css:=by
 obtain⟨a,b,off,c,d,e⟩:=h;exact⟨a,b,off,c,d,e.keeps k⟩
theorem gj.mono {S S':Np}{sz:Nat}{css:List (Lv)}(h:gj w S sz v css)(k:∀b,S b->b<w.heap.size->S' b):gj w S' sz v css:=by
 obtain⟨e,b,off,c,f,a⟩:=h;exact⟨e,b,off,c,f,⟨a.ln,a.cap,a.mx,a.dR,fun d=>k _ (a.ok d) (a.lt d),a.pl,a.A0,a.cell⟩⟩
theorem gj.pO {S S':Np}{sz:Nat}{xs g:List (Lv)}(h:gj w S sz v xs)(k:gj w S' sz v g):xs=g:=by
 obtain⟨z,b,off,c,o,a⟩:=h;obtain⟨B,C,E,F,d,e⟩:=k;rw[o] at d;simp only[Value.slice.injEq] at d;obtain⟨p,q,G⟩:=d;refine List.ext_getElem q fun i l m=> ?_;have r:=a.dR (by omega);have f:=e.dR (by omega);rw[<-p,r] at f;simp only[Option.some.injEq,Addr.mk.injEq,and_true] at f;obtain⟨s,t⟩:=f;refine List.ext_getElem ((a.A0 i l).trans (e.A0 i m).symm) fun j u x=> ?_;have n:=a.cell i l j _ (List.getElem?_eq_getElem u);have y:=e.cell i m j _ (List.getElem?_eq_getElem x);rw[s,t] at n;exact Option.some.inj (n.symm.trans y)
theorem abb {css:List (Lv)}{sz:Nat}(h:∀i (h:i<css.length),css[i].length=sz):css.flatten.length=css.length*sz:=by
 induction css with
 | nil=>simp
 | cons a r b=>
  have c:a.length=sz:=h 0 (by simp);have:=b (fun i d=>h (i+1) (by simpa using d));simp only[List.flatten_cons,List.length_append,iz,this,c];rw[Nat.succ_mul];omega
theorem Tm {css:List (Lv)}{sz:Nat}(h:∀i (h:i<css.length),css[i].length=sz):∀i (b:i<css.length) j,j<sz->css.flatten[i*sz+j]? =css[i][j]? :=by
 induction css with
 | nil=>intro i b;simp at b
 | cons a r c=>
  intro i b j d;have e:a.length=sz:=h 0 (by simp)
  match i with
  | 0=>
   simp only[List.flatten_cons,Nat.zero_mul,Nat.zero_add];rw[List.getElem?_append_left (by omega)];rfl
  | i+1=>
   have:=c (fun i b=>h (i+1) (by simpa using b)) i (by simpa using b) j d;simp only[List.flatten_cons];rw[List.getElem?_append_right (by rw[Nat.succ_mul];omega)];rw[<-show(i+1)*sz+j - a.length=i*sz+j by rw[Nat.succ_mul];omega] at this;simpa using this
theorem gj.Nc {sz:Nat}{css:List (Lv)}{S:Np}(h:w.ownsRow B e sz v n css.flatten)(hn:n=css.length)(a:∀i (h:i<css.length),css[i].length=sz)(hS:∀b,B<=b->S b):gj w S sz v css:=by
 subst hn;rcases h.2 with⟨d,o⟩|⟨g,p,y,d,q,f,r,s,z,t⟩
 ·refine⟨U,0,0,0,by rw[d,o],⟨rfl,by omega,by simp[maxLen],fun k=>by omega,fun k=>by omega,fun k=>by omega,a,fun i c=>by omega⟩⟩
 ·refine⟨Z (Y g 0 U),g,0,p,d,⟨rfl,r,s,fun _=>rfl,fun _=>hS _ q,fun _=>⟨_,_,f⟩,a,fun i c j C l=> ?_⟩⟩;have u:j<sz:=by
   have:=(List.getElem?_eq_some_iff.1 l).1;rwa [a i c] at this
  have m:=(Tm a i c j u).trans l;have x:i*sz+j<css.length*sz:=(by have:(i+1)*sz<=css.length*sz:=Nat.mul_le_mul_right _ c;rw[Nat.succ_mul] at this;omega);rw[<-t,List.getElem?_take,if_pos x] at m;rw[Nat.zero_add];simp[aN,f];simpa using m
theorem gj.new {sz:Nat}{css:List (Lv)}{b:Av}{S:Np}(hn:n=css.length)(hm:n<=maxLen)(f:b=css.flatten.toArray)(a:∀i (h:i<css.length),css[i].length=sz)(hS:S w.heap.size):
 gj (w.alloc (M b e)) S sz (O (Z (Y w.heap.size 0 U)) n n) css:=by
 subst hn f;refine⟨Z (Y w.heap.size 0 U),w.heap.size,0,css.length,rfl,⟨rfl,aD _,hm,fun _=>rfl,fun _=>hS,fun _=>⟨_,_,heap_alloc_new w _⟩,a,fun i c j l d=> ?_⟩⟩;have g:j<sz:=by
  have:=(List.getElem?_eq_some_iff.1 d).1;rwa [a i c] at this
 have k:=(Tm a i c j g).trans d;rw[Nat.zero_add,World.cell?_alloc_at _ _ _ _ rfl];simpa using k
theorem gj.none (w:au)(S:Np)(sz:Nat)(b:Oa):gj w S sz (O b 0 0) []:=
 ⟨b,0,0,0,rfl,⟨rfl,aD _,by simp[maxLen],fun h=>by simp at h,fun h=>by simp at h,fun h=>by simp at h,fun i a=>by simp at a,fun i a=>by simp at a⟩⟩
def wU (l:List Bt):List (Lv):=l.map fun s=>[H s]
structure kv (w:au)(S:Np)(v:aw)(l:List Bt):Prop where
 row:gj w S 1 v (wU l)
 sz:∀s∈l,s.size<=maxLen
def yx (l:List Po)(vs:Lv):List (Lv):=List.zipWith (fun p u=>[H p.1,u]) l vs
structure dw (w:au)(S:Np)(v:aw)(l:List Po):Prop where
 ex:∃vs:Lv,vs.length=l.length/\gj w S 2 v (yx l vs)/\∀i (h:i<l.length) (h':i<vs.length),kv w S vs[i] l[i].2
 sz:∀p∈l,p.1.size<=maxLen
theorem kv.keeps {S:Np}{l:List Bt}(h:kv w S v l)(k:aP S w w'):kv w' S v l:=⟨h.row.keeps k,h.sz⟩
theorem dw.keeps {S:Np}{l:List Po}(h:dw w S v l)(k:aP S w w'):dw w' S v l:=by
 obtain⟨⟨a,b,c,d⟩,e⟩:=h;exact⟨⟨a,b,c.keeps k,fun i f g=>(d i f g).keeps k⟩,e⟩
theorem kv.mono {S S':Np}{l:List Bt}(h:kv w S v l)(k:∀b,S b->b<w.heap.size->S' b):kv w S' v l:=⟨h.row.mono k,h.sz⟩
theorem dw.mono {S S':Np}{l:List Po}(h:dw w S v l)(k:∀b,S b->b<w.heap.size->S' b):dw w S' v l:=by
 obtain⟨⟨a,c,d,e⟩,f⟩:=h;exact⟨⟨a,c,d.mono k,fun i g j=>(e i g j).mono k⟩,f⟩
theorem kv.pO {S S':Np}{l m:List Bt}(h:kv w S v l)(k:kv w S' v m):l=m:=by
 have:=h.row.pO k.row;unfold wU at this;have c:Function.Injective (fun s:Bt=>[Value.string s]):=(by intro a b h;simpa using h);exact(List.map_inj_right (fun a b h=>c h)).1 this
theorem M8 {l:List Po}{a:Lv}(h:a.length=l.length):(yx l a).length=l.length/\∀i (b:i<l.length) (c:i<a.length) (d:i<(yx l a).length),(yx l a)[i]=[H l[i].1,a[i]]:=by
 refine⟨by simp[yx,h],fun i b c d=>by simp[yx]⟩
theorem dw.pO {S S':Np}{l m:List Po}(h:dw w S v l)(k:dw w S' v m):l=m:=by
 obtain⟨⟨f,g,j,n⟩,B⟩:=h;obtain⟨⟨us,o,p,q⟩,C⟩:=k;have e:=j.pO p;obtain⟨r,s⟩:=M8 g;obtain⟨t,u⟩:=M8 o;have x:l.length=m.length:=(by rw[<-r,<-t,e]);refine List.ext_getElem x fun i b c=> ?_;have y:=s i b (by omega) (by omega);have z:=u i c (by omega) (by omega);have a:(yx l f)[i]'(by omega)=(yx m us)[i]'(by omega):=(by simp only[e]);rw[y,z] at a;simp only[List.cons.injEq,Value.string.injEq,and_true] at a;have d:=n i b (by omega);rw[a.2] at d;exact Prod.ext a.1 (d.pO (q i c (by omega)))
inductive aS (w:au)(S:Np):Tr->Lv->Prop
 | mk {k p n t:Int} {s:Bt} {l:List Po} {a:List Tr} {lv av:Value} {css:List (Lv)} (hs:s.size<=maxLen) (hl:dw w S lv l) (hr:gj w S 7 av css) (hc:css.length=a.length)
  (hk:∀i (h:i<a.length) (h':i<css.length),aS w S a[i] css[i]):aS w S (.mk k p n t s l a) [A I k,A I p,A I n,A I t,H s,lv,av]
theorem aS.len {S:Np}{t:Tr}{a:Lv}(h:aS w S t a):a.length=7:=by cases h;rfl
theorem aS.keeps {S:Np}{t:Tr}{a:Lv}(h:aS w S t a)(k:aP S w w'):aS w' S t a:=by
 induction h with
 | mk b c d e _ f=>exact .mk b (c.keeps k) (d.keeps k) e f
theorem aS.mono {S S':Np}{t:Tr}{a:Lv}(h:aS w S t a)(k:∀b,S b->b<w.heap.size->S' b):aS w S' t a:=by
 induction h with
 | mk c d e f _ g=>exact .mk c (d.mono k) (e.mono k) f g
theorem aS.pO {S S':Np}{t u:Tr}{c:Lv}(h:aS w S t c)(g:aS w S' u c):t=u:=by
 induction h generalizing u with
 | mk z d j m _ o=>
  cases g with
  | mk B q r v gk=>
   have e:=d.pO q;have f:=j.pO r;subst e f;have:∀(a b:List Tr),a=b->∀{k p n t s l},Tr.mk k p n t s l a=Tr.mk k p n t s l b:=fun a b h=>(by subst h;intros;rfl);refine this _ _ (List.ext_getElem (m.symm.trans v) fun i x y=> ?_);exact o i x (by omega) (gk i y (by omega))
structure aqw (w:au)(S:Np)(v:aw)(a:List Tr):Prop where
 ex:∃css:List (Lv),gj w S 7 v css/\css.length=a.length/\∀i (h:i<a.length) (h':i<css.length),aS w S a[i] css[i]
theorem jh (w:au)(row:Option Nat):w.grownBy w row:=⟨rfl,rfl,rfl,aD _,fun _ _ _=>rfl⟩
theorem cU {b c:au}{row:Option Nat}(h:a.grownBy b row)(k:b.grownBy c row):a.grownBy c row:=
 ⟨k.os.trans h.os,k.tape.trans h.tape,k.output.trans h.output,Nat.le_trans h.size k.size,fun i d hn=>(k.block i (gD d h.size) hn).trans (h.block i d hn)⟩
theorem BP {row:Option Nat}(h:a.grownBy w row)(o:Obj):a.grownBy (w.alloc o) row:=
 cU h ⟨rfl,rfl,rfl,by simp,fun k b _=>Below.heap_alloc _ _ _ b⟩
theorem Te {row:Option Nat}(h:a.grownBy w row):a.grownBy w.drew row:=⟨h.os,h.tape,h.output,h.size,h.block⟩
theorem eR {p:Addr}(h:a.grownBy w (Z b))(c:p.block=b)(u:aw):a.grownBy (w.setCell p u) (Z b):=
 cU h ⟨rfl,rfl,rfl,by simp[bw],fun k d hn=>dL _ _ _ _ (by rintro rfl;exact hn (by rw[c]))⟩
theorem za {row:Option Nat}{p:Addr}(h:a.grownBy w row)(c:a.heap.size<=p.block)(u:aw):a.grownBy (w.setCell p u) row:=
 ⟨h.os,h.tape,h.output,by simpa[bw] using h.size,fun k b hn=>(dL _ _ _ _ (by omega)).trans (h.block k b hn)⟩
theorem mH {row:Option Nat}(h:a.grownBy w row)(b:Bl w w'):a.grownBy w' row:=
 cU h ⟨b.os,b.tape,b.output,b.size,fun k c _=>b.block k c⟩
theorem cu (w:au)(o:Obj)(b:Nat)(h:b=w.heap.size):(w.alloc o).heap[b]? =Z o:=by
 subst h;exact heap_alloc_new w o
theorem cR (h:w.heap[b]? =Z x):(w.alloc o).heap[b]? =Z x:=by
 rw[Below.heap_alloc w o b (J h)];exact h
theorem nz {a:Addr}{u:aw}(h:w.heap[b]? =Z x)(c:b≠a.block):(w.setCell a u).heap[b]? =Z x:=by
 rw[dL w a u b c];exact h
theorem eS {v:au}(h:v=w.alloc o):Bl w v:=by rw[h];exact(aF _ _).alloc (aD _) _
theorem lU {v:au}(h:v=(w.alloc o).alloc N):Bl w v:=by rw[h];exact((aF _ _).alloc (aD _) _).alloc (by simp) _
theorem uJ {v:au}(h:v=w.alloc o):v.heap.size=w.heap.size+1:=by rw[h];simp
theorem Ax {v:au}(h:v=(w.alloc o).alloc N):v.heap.size=w.heap.size+2:=by rw[h];simp
theorem Pp {v:au}{a:Obj}(h:v=((w.alloc o).alloc N).alloc a):v.heap.size=w.heap.size+3:=by rw[h];simp
theorem aa {v:au}{C:Av}{e:TypeId}(h:v=w.alloc (M C e)):v.heap[w.heap.size]? =Z (M C e):=by rw[h];exact cu _ _ _ rfl
theorem ab {v:au}{C:Av}{e:TypeId}(h:v=(w.alloc (M C e)).alloc o):v.heap[w.heap.size]? =Z (M C e):=by rw[h];exact cR (cu _ _ _ rfl)
theorem ac {v:au}{C:Av}{e:TypeId}(h:v=(w.alloc o).alloc (M C e)):v.heap[w.heap.size+1]? =Z (M C e):=by rw[h];exact cu _ _ _ (by simp)
theorem an {v:au}(a:Hid (Bl w K))(h:v=K.alloc o):Hid (Bl w v):=by show Below _ _ _;rw[h];exact a.alloc a.size _
theorem bu {v:au}(a:Bl w K)(h:Bl K v):Bl w v:=a.trans (h.mono a.size)
theorem bt {v:au}(a:Hid (Bl w K))(h:Bl K v):Hid (Bl w v):=bu a.out h
theorem ku {v:au}(h:Bl w v)(a:w.heap[b]? =Z o):v.heap[b]? =Z o:=(h.block _ (J a)).trans a
theorem kp {v:au}(h:Bl w v)(a:Hid (w.heap[b]? =Z o)):Hid (v.heap[b]? =Z o):=ku h a.out
theorem cl {C:Av}{e:TypeId}(h:w.heap[b]? =Z (M C e))(i:Nat)(a:C[i]? =Z v):w.cell? (Y b i U)=Z v:=by simp[aN,h,a]
theorem fz {C:Av}{e:TypeId}(h:w.heap[b]? =Z (M C e))(i:Nat):w.frozen? (Y b i U)=ak:=by simp[World.frozen?,h]
theorem xJ {x:aw}{e:TypeId}(h:w.heap[b]? =Z (M #[x,y] e)):(w.cell? (Y b 0 U)=Z x/\w.cell? (Y b 1 U)=Z y)/\w.frozen? (Y b 0 U)=ak/\w.frozen? (Y b 1 U)=ak:=⟨⟨cl h 0 rfl,cl h 1 rfl⟩,fz h 0,fz h 1⟩
def Q8 (L:Lv):List (Nat×aw)->Lv
 |[]=>L
 | u::l=>Q8 (L.set u.1 u.2) l
def ma (w:au)(b:Nat):List (Nat×aw)->au
 |[]=>w
 | u::l=>ma (w.setCell (Y b u.1 U) u.2) b l
theorem afX {v:au}{C:Av}{e:TypeId}(l:List (Nat×aw))(h:w.heap[b]? =Z (M C e))(f:v=ma w b l):Below b w v/\aP (fun k=>b<k) w v/\v.heap[b]? =Z (M ⟨Q8 C.toList l⟩ e):=by
 subst f;induction l generalizing w C with
 | nil=>exact⟨aF _ _,aP.refl _ _,h⟩
 | cons a l g=>
  have i:(w.setCell (Y b a.1 U) a.2).heap[b]? =Z (M (C.setIfInBounds a.1 a.2) e):=(by simp only[bw,dM,h];rfl);obtain⟨j,m,c⟩:=g i;rw[Array.toList_setIfInBounds] at c;have d:Below b w (w.setCell (Y b a.1 U) a.2):=(aF b w).setCell (p:=(Y b a.1 U)) (aD _) _;exact⟨d.trans j,aP.trans ⟨d.size,fun k n _=>dL _ _ _ _ (by show k≠b;omega)⟩ m,c⟩
theorem nr {C:Av}{e:TypeId}(l:List (Nat×aw))(h:w.heap[b]? =Z (M C e)):∃v,v=ma w b l/\Below b w v/\aP (fun k=>b<k) w v/\v.heap[b]? =Z (M ⟨Q8 C.toList l⟩ e):=⟨_,rfl,afX l h rfl⟩
namespace ag
theorem oW {α b:Type}{x:aA α}{f:α->List Tok->aA b}(h:x.bind f=.no c q):x=.no c q\/∃a s,x=.ok a s/\f a s=.no c q:=by
 cases x with
 | ok a s=>exact .inr ⟨a,s,rfl,h⟩
 | no d e=>cases h;exact .inl rfl
def gJ {α:Type}(P:List Tok->aA α):Prop:=∀ts c q,P ts=.no c q->c=1\/c=2
theorem oM (e:Nat)(s:Lu):gJ (aR e s):=by
 intro ts c q h;unfold aR at h;split at h
 ·cases h
 ·cases h;exact .inl rfl
theorem uk (e:Nat):gJ (bR e):=by
 intro ts c q h;unfold bR at h;split at h
 ·cases h
 ·cases h;exact .inl rfl
theorem ajo {α:Type}{s:Lu}{P:List Tok->aA α}(a:gJ P):∀m acc,gJ (dU e s P m acc):=by
 intro m;induction m with
 | zero=>
  intro acc ts c q h;unfold dU at h;split at h
  ·cases h;exact .inr rfl
  ·cases h
 | succ m d=>
  intro acc ts c q h;unfold dU at h;split at h
  ·rcases oW h with h |⟨b,g,i,f⟩
   ·exact a _ _ _ h
   ·exact d _ _ _ _ f
  ·cases h
theorem RH {α:Type}{s:Lu}{P:List Tok->aA α}(a:gJ P):gJ (dT e s m P):=by
 intro ts c q h;rcases oW h with h |⟨b,f,g,d⟩
 ·exact a _ _ _ h
 ·exact ajo a _ _ _ _ _ d
theorem O5 {α:Type}{o s c:Lu}{P:List Tok->aA α}(a:gJ P):gJ (ei e o s c m P):=by
 intro ts i q h;rcases oW h with h |⟨b,j,k,d⟩
 ·exact oM _ _ _ _ _ h
 rcases oW d with h |⟨l,v,n,f⟩
 ·split at h
  ·cases h
  ·exact RH a _ _ _ h
 rcases oW f with h |⟨p,r,t,g⟩
 ·exact oM _ _ _ _ _ h
 ·cases g
theorem agM (e:Nat):gJ (mQ e):=by
 intro ts c q h;rcases oW h with h |⟨b,g,i,d⟩
 ·exact uk _ _ _ _ h
 rcases oW d with h |⟨l,v,j,a⟩
 ·exact oM _ _ _ _ _ h
 split at a
 ·rcases oW a with h |⟨k,m,n,f⟩
  ·exact RH (uk e) _ _ _ h
  ·cases f
 ·cases a
theorem Ny (e:Nat):gJ (fX e):=fun ts c q h=>O5 (agM e) ts c q h
theorem ajf {Q:List Tok->aA Tr}{lv:Nat}(a:gJ Q):∀f x,gJ (ja Q lv f x):=by
 intro f;induction f with
 | zero=>intro x ts c q h;cases h
 | succ f d=>
  intro x ts c q h;unfold ja at h;split at h
  ·rcases oW h with h |⟨b,g,i,e⟩
   ·exact a _ _ _ h
   ·exact d _ _ _ _ e
  ·cases h
theorem acf {P:List Tok->aA Tr}(d:gJ P):∀j,gJ (bd P j):=by
 intro j;induction j with
 | zero=>exact d
 | succ j a=>
  intro ts c q h;rcases oW h with h |⟨b,f,g,e⟩
  ·exact a _ _ _ h
  ·exact ajf a _ _ _ _ _ e
theorem aip {E:List Tok->aA Tr}(a:gJ E):gJ (qS e E):=by
 intro ts c q h;unfold qS at h;split at h
 ·rcases oW h with h |⟨b,f,g,d⟩
  ·exact O5 a _ _ _ h
  ·cases d
 ·cases h
theorem akR {E:List Tok->aA Tr}(a:gJ E):gJ (EU e E):=by
 intro ts c q h;rcases oW h with h |⟨b,i,j,d⟩
 ·exact oM _ _ _ _ _ h
 rcases oW d with h |⟨l,v,k,f⟩
 ·exact a _ _ _ h
 rcases oW f with h |⟨m,n,o,g⟩
 ·exact oM _ _ _ _ _ h
 ·cases g
theorem afG {E:List Tok->aA Tr}(a:gJ E):gJ (qd e E):=by
 intro ts c q h;rcases oW h with h |⟨_,b,d,h⟩
 ·exact oM _ _ _ _ _ h
 rcases oW h with h |⟨_,f,g,h⟩
 ·exact a _ _ _ h
 rcases oW h with h |⟨_,i,j,h⟩
 ·exact oM _ _ _ _ _ h
 rcases oW h with h |⟨_,k,l,h⟩
 ·exact Ny _ _ _ _ h
 rcases oW h with h |⟨_,m,n,h⟩
 ·exact oM _ _ _ _ _ h
 cases h
theorem agD {E P:List Tok->aA Tr}(a:gJ E)(d:gJ P):gJ (gE e E P):=by
 intro ts c q h;unfold gE at h;split at h
 ·cases h
 split at h
 ·exact aip a _ _ _ h
 split at h
 ·exact afG a _ _ _ h
 split at h
 ·rcases oW h with h |⟨b,g,i,f⟩
  ·exact d _ _ _ h
  ·cases f
 split at h
 ·cases h
 split at h
 ·cases h
 exact akR a _ _ _ h
theorem agy (e:Nat):∀k,gJ (wX e k):=by
 intro k;induction k with
 | zero=>intro ts c q h;cases h;exact .inr rfl
 | succ k a=>exact agD (acf a 5) a
theorem Dl (e k:Nat):gJ (fp e k):=acf (agy e k) 5
def vp {α:Type}(e:Nat)(a:α)(r:List Tok):aA α:=if r.isEmpty=ap then .ok a [] else .no 1 (bI e r)
def zV {α:Type}(R:Nat->List Tok->aA α)(l:Lu):aA α:=
 if(Lex.jK l).2.1≠0 then .no (Lex.jK l).2.1 (Lex.jK l).2.2 else(R l.length (Lex.jK l).1).bind fun a r=>vp l.length a r
def CE (l:Lu):aA Tr:=zV (fun e=>fp e 12) l
theorem Qt {α:Type}{R:Nat->List Tok->aA α}(d:∀e,gJ (R e))(l:Lu)(h:zV R l=.no c q):c≠0:=by
 unfold zV at h;split at h
 ·rename_i f;cases h;exact f
 ·rcases oW h with h |⟨a,r,g,b⟩
  ·rcases d _ _ _ _ h with rfl | rfl<;>decide
  ·unfold vp at b;split at b
   ·cases b
   ·cases b;decide
theorem Qr {α:Type}{R:Nat->List Tok->aA α}{l:Lu}{ts:List Tok}(h:Lex.jK l=(ts,c,q))(a:c≠0):zV R l=.no c q:=by
 unfold zV;rw[h];simp[a]
theorem Qs {α:Type}{R:Nat->List Tok->aA α}{l:Lu}{ts:List Tok}(h:Lex.jK l=(ts,0,q)):zV R l=(R l.length ts).bind fun a r=>vp l.length a r:=by
 unfold zV;rw[h];simp
end ag
namespace ag
abbrev jz:=List (Tok×Tr)
def dh (s:Tok):Nat:=dW s.2.2
theorem JK (s:Tok):dh s<=5:=by
 unfold dh dW;split;· omega
 split;· omega
 split;· omega
 split;· omega
 split<;>omega
def oN (Q:Tr->jz->Tr×jz)(lv:Nat):Nat->Tr->jz->Tr×jz
 | 0,x,l=>(x,l)
 | _+1,x,[]=>(x,[])
 | f+1,x,(s,y)::l=>if dh s=lv then oN Q lv f (eK s [x,(Q y l).1]) (Q y l).2 else(x,(s,y)::l)
def eC:Nat->Tr->jz->Tr×jz
 | 0,x,l=>(x,l)
 | j+1,x,l=>oN (eC j) (5 - j) (eC j x l).2.length (eC j x l).1 (eC j x l).2
def ko:List (Tr×Tok)->Tr->Nat->List (Tr×Tok)×Tr
 |[],x,_=>([],x)
 |(o,s)::st,x,v=>if v<=dh s then ko st (eK s [o,x]) v else((o,s)::st,x)
def GG:List (Tr×Tok)->Tr->jz->Tr
 | st,x,[]=>(ko st x 0).2
 | st,x,(s,y)::l=>GG (((ko st x (dh s)).2,s)::(ko st x (dh s)).1) y l
theorem aiZ {Q:Tr->jz->Tr×jz}(a:∀y l,(Q y l).2.length<=l.length)(lv:Nat):∀f x l,(oN Q lv f x l).2.length<=l.length:=by
 intro f;induction f with
 | zero=>intro x l;exact aD _
 | succ f b=>
  intro x l
  match l with
  |[]=>exact aD _
  |(s,y)::l=>
   show(if dh s=lv then oN Q lv f (eK s [x,(Q y l).1]) (Q y l).2 else(x,(s,y)::l)).2.length<=_;split
   ·have c:=b (eK s [x,(Q y l).1]) (Q y l).2;have d:=a y l;simp only[iz];omega
   ·exact aD _
theorem Pn:∀j x l,(eC j x l).2.length<=l.length:=by
 intro j;induction j with
 | zero=>intro x l;exact aD _
 | succ j a=>
  intro x l;exact Nat.le_trans (aiZ a _ _ _ _) (a x l)
theorem aja {Q:Tr->jz->Tr×jz}(b:∀y l,(Q y l).2.length<=l.length)(lv:Nat):∀f g x l,l.length<=f->l.length<=g->oN Q lv f x l=oN Q lv g x l:=by
 intro f;induction f with
 | zero=>
  intro g x l hf _;obtain rfl:l=[]:=List.length_eq_zero_iff.1 (by omega);cases g<;>rfl
 | succ f c=>
  intro g x l hf a
  match l with
  |[]=>cases g<;>rfl
  |(s,y)::l=>
   cases g with
   | zero=>simp at a
   | succ g=>
    show(if dh s=lv then oN Q lv f _ _ else _)=(if dh s=lv then oN Q lv g _ _ else _);split
    ·have d:=b y l;simp only[iz] at hf a;exact c g _ _ (by omega) (by omega)
    ·rfl
def Hd (n:Nat)(l:jz):Prop:=∀s y r,l=(s,y)::r->dh s<=n
theorem alY (l:jz):Hd 5 l:=fun s _ _ _=>JK s
theorem Sw (n:Nat):Hd n []:=fun _ _ _ h=>by cases h
theorem Sx {s:Tok}{y:Tr}{l:jz}(h:dh s<=n):Hd n ((s,y)::l):=fun a b r e=>by
 simp only[List.cons.injEq,Prod.mk.injEq] at e;rw[<-e.1.1];exact h
theorem Hd.mono {a:Nat}{l:jz}(h:Hd a l)(c:a<=b):Hd b l:=fun s y r e=>Nat.le_trans (h s y r e) c
theorem aiY {Q:Tr->jz->Tr×jz}{lv:Nat}{l:jz}(h:Hd n l)(hn:n<lv)(f:Nat)(x:Tr):oN Q lv f x l=(x,l):=by
 cases f with
 | zero=>rfl
 | succ f=>
  match l with
  |[]=>rfl
  |(s,y)::l=>
   show(if dh s=lv then _ else _)=_;rw[if_neg (by have:=h s y l rfl;omega)]
theorem TV:∀j,j<=5->∀x l,Hd (5 - j) l->eC j x l=(x,l):=by
 intro j;induction j with
 | zero=>intro _ x l _;rfl
 | succ j a=>
  intro b x l h;have e:=a (by omega) x l (h.mono (by omega));show oN (eC j) (5 - j) (eC j x l).2.length (eC j x l).1 (eC j x l).2=_;rw[e];exact aiY h (by omega) _ _
theorem aiX {Q:Tr->jz->Tr×jz}{lv:Nat}(e:0<lv)(a:∀y l,(Q y l).2.length<=l.length)(b:∀y l,Hd lv (Q y l).2):∀f x l,l.length<=f->Hd lv l->Hd (lv - 1) (oN Q lv f x l).2:=by
 intro f;induction f with
 | zero=>
  intro x l hf _;obtain rfl:l=[]:=List.length_eq_zero_iff.1 (by omega);exact Sw _
 | succ f c=>
  intro x l hf d
  match l with
  |[]=>exact Sw _
  |(s,y)::l=>
   show Hd (lv - 1) (if dh s=lv then oN Q lv f (eK s [x,(Q y l).1]) (Q y l).2 else(x,(s,y)::l)).2;split
   ·have g:=a y l;simp only[iz] at hf;exact c _ _ (by omega) (b y l)
   ·rename_i h;exact Sx (by have:=d s y l rfl;omega)
theorem acg:∀j,j<=5->∀x l,Hd (5 - j) (eC j x l).2:=by
 intro j;induction j with
 | zero=>intro _ x l;exact alY l
 | succ j a=>
  intro b x l;have h:=aiX (Q:=eC j) (lv:=5 - j) (by omega) (Pn j) (a (by omega)) (eC j x l).2.length (eC j x l).1 (eC j x l).2 (aD _) (a (by omega) x l);have e:5 - (j+1)=5 - j - 1:=(by omega);rw[e];exact h
theorem ach {s:Tok}{x y:Tr}{l:jz}(f:0<dh s):∀j,6 - dh s<=j->j<=5->eC j x ((s,y)::l)=eC j (eK s [x,(eC (5 - dh s) y l).1]) (eC (5 - dh s) y l).2:=by
 have g:=JK s;intro j;induction j with
 | zero=>intro h;omega
 | succ j a=>
  intro h i;show oN (eC j) (5 - j) (eC j x ((s,y)::l)).2.length (eC j x ((s,y)::l)).1 (eC j x ((s,y)::l)).2=oN (eC j) (5 - j) (eC j _ _).2.length (eC j _ _).1 (eC j _ _).2;by_cases b:6 - dh s<=j
  ·rw[a b (by omega)]
  ·have c:j=5 - dh s:=(by omega);have d:eC j x ((s,y)::l)=(x,(s,y)::l):=TV j (by omega) _ _ (Sx (by omega));have e:eC j (eK s [x,(eC j y l).1]) (eC j y l).2=(eK s [x,(eC j y l).1],(eC j y l).2):=TV j (by omega) _ _ (acg j (by omega) y l);rw[<-c,d,e];show(if dh s=5 - j then oN (eC j) (5 - j) l.length (eK s [x,(eC j y l).1]) (eC j y l).2 else _)=_;rw[if_pos (by omega)];exact aja (Pn j) _ _ _ _ _ (Pn j y l) (aD _)
def fin:List (Tr×Tok)->Tr->jz->Tr
 |[],x,l=>(eC 5 x l).1
 |(o,s)::st,x,l=>fin st (eK s [o,(eC (5 - dh s) x l).1]) (eC (5 - dh s) x l).2
inductive xO:List (Tr×Tok)->Prop
 | nil:xO []
 | one {o:Tr} {s:Tok}:0<dh s->xO [(o,s)]
 | cons {o o':Tr} {s s':Tok} {st:List (Tr×Tok)}:dh s'<dh s->xO ((o',s')::st)->xO ((o,s)::(o',s')::st)
theorem xO.tail {o:Tr}{s:Tok}{st:List (Tr×Tok)}(h:xO ((o,s)::st)):xO st:=by
 cases h with
 | one _=>exact .nil
 | cons _ h=>exact h
theorem xO.pos {o:Tr}{s:Tok}{st:List (Tr×Tok)}(h:xO ((o,s)::st)):0<dh s:=by
 cases h with
 | one h=>exact h
 | cons h _=>omega
def acu (n:Nat)(st:List (Tr×Tok)):Prop:=∀o s r,st=(o,s)::r->dh s<n
theorem To {v:Nat}:∀{st:List (Tr×Tok)} {x:Tr} {l:jz},xO st->Hd v l->fin st x l=fin (ko st x v).1 (ko st x v).2 l/\xO (ko st x v).1/\(0<v->acu v (ko st x v).1)/\(v=0->(ko st x v).1=[])
 |[],x,l,hr,_=>⟨rfl,hr,(fun _ _ _ _ h=>by cases h),(fun _=>rfl)⟩
 |(o,s)::st,x,l,hr,hl=>by
  have f:=hr.pos;have g:=JK s;by_cases a:v<=dh s
  ·have e:ko ((o,s)::st) x v=ko st (eK s [o,x]) v:=(by show(if v<=dh s then _ else _)=_;rw[if_pos a]);have b:eC (5 - dh s) x l=(x,l):=TV _ (by omega) _ _ (hl.mono (by omega));obtain⟨c,d⟩:=To (v:=v) (x:=eK s [o,x]) (l:=l) hr.tail hl;rw[e];refine⟨?_,d⟩;show fin st (eK s [o,(eC (5 - dh s) x l).1]) (eC (5 - dh s) x l).2=_;rw[b];exact c
  ·have e:ko ((o,s)::st) x v=((o,s)::st,x):=(by show(if v<=dh s then _ else _)=_;rw[if_neg a]);rw[e];refine⟨rfl,hr,fun _ N i r h=> ?_,fun h=>by omega⟩;simp only[List.cons.injEq,Prod.mk.injEq] at h;rw[<-h.1.2];omega
theorem anc {st:List (Tr×Tok)}{x y:Tr}{s:Tok}{l:jz}(a:0<dh s)(b:acu (dh s) st):fin st x ((s,y)::l)=fin ((x,s)::st) y l:=by
 have c:=JK s
 match st with
 |[]=>
  show(eC 5 x ((s,y)::l)).1=(eC 5 (eK s [x,(eC (5 - dh s) y l).1]) (eC (5 - dh s) y l).2).1;rw[ach a 5 (by omega) (aD _)]
 |(o,t)::st=>
  have d:=b o t st rfl;have e:=ach (x:=x) (y:=y) (l:=l) a (5 - dh t) (by omega) (by omega);show fin st (eK t [o,(eC (5 - dh t) x ((s,y)::l)).1]) (eC (5 - dh t) x ((s,y)::l)).2=fin ((o,t)::st) (eK s [x,(eC (5 - dh s) y l).1]) (eC (5 - dh s) y l).2;rw[e];rfl
theorem apQ:∀j x,eC j x []=(x,[]):=by
 intro j;induction j with
 | zero=>intro x;rfl
 | succ j a=>
  intro x;show oN (eC j) (5 - j) (eC j x []).2.length (eC j x []).1 (eC j x []).2=_;rw[a];rfl
theorem afu:∀(l:jz) (st:List (Tr×Tok)) (x:Tr),xO st->(∀p∈l,0<dh p.1)->GG st x l=fin st x l:=by
 intro l;induction l with
 | nil=>
  intro st x a _;obtain⟨b,_,_,g⟩:=To (v:=0) (x:=x) (l:=[]) a (Sw 0);show(ko st x 0).2=_;rw[b,g rfl];show _=(eC 5 _ []).1;rw[apQ]
 | cons p l h=>
  intro st x a e;obtain⟨s,y⟩:=p;have c:=e (s,y) (by simp);obtain⟨b,f,i,_⟩:=To (v:=dh s) (x:=x) (l:=(s,y)::l) a (Sx (aD _));have d:=i c;show GG (((ko st x (dh s)).2,s)::(ko st x (dh s)).1) y l=_;rw[h _ _ ?_ fun q j=>e q (by simp[j]),b,anc c d]
  match di:(ko st x (dh s)).1 with
  |[]=>exact .one c
  |(o,t)::r=>
   rw[di] at f d;exact .cons (d o t r rfl) f
theorem aft (x:Tr)(l:jz)(h:∀p∈l,0<dh p.1):GG [] x l=(eC 5 x l).1:=afu l [] x .nil h
inductive Seq (P:List Tok->aA Tr):List Tok->Tr->jz->List Tok->Prop
 | last {ts r:List Tok} {x:Tr}:P ts=.ok x r->dW (nx r).2.2=0->Seq P ts x [] r
 | more {ts q r:List Tok} {x y:Tr} {s:Tok} {l:jz}:P ts=.ok x (s::q)->0<dh s->Seq P q y l r->Seq P ts x ((s,y)::l) r
inductive zt (P:List Tok->aA Tr):List Tok->Int->Np
 | here {ts:List Tok} {c:Int} {q:Nat}:P ts=.no c q->zt P ts c q
 | more {ts q:List Tok} {x:Tr} {s:Tok} {c:Int} {p:Nat}:P ts=.ok x (s::q)->0<dh s->zt P q c p->zt P ts c p
theorem Seq.aeR {P:List Tok->aA Tr}{ts r:List Tok}{x:Tr}{l:jz}(h:Seq P ts x l r):∀p∈l,0<dh p.1:=by
 induction h with
 | last _ _=>intro p a;cases a
 | more _ b _ c=>
  intro p a;rcases List.mem_cons.1 a with rfl | a
  ·exact b
  ·exact c p a
inductive Left (P:List Tok->aA Tr)(r:List Tok):List Tok->jz->Prop
 | none:dW (nx r).2.2=0->Left P r r []
 | some {s:Tok} {q:List Tok} {y:Tr} {l:jz}:0<dh s->Seq P q y l r->Left P r (s::q) ((s,y)::l)
theorem Seq.first {P:List Tok->aA Tr}{ts r:List Tok}{x:Tr}{l:jz}(h:Seq P ts x l r):∃q,P ts=.ok x q/\Left P r q l:=by
 cases h with
 | last a b=>exact⟨_,a,.none b⟩
 | more a b c=>exact⟨_,a,.some b c⟩
theorem aiS {P:List Tok->aA Tr}{Q:List Tok->aA Tr}{S:Tr->jz->Tr×jz}{r:List Tok}{lv:Nat}(C:0<lv)(o:∀ts x l,Seq P ts x l r->∃q,Q ts=.ok (S x l).1 q/\Left P r q (S x l).2)(hS:∀y l,(S y l).2.length<=l.length):
 ∀(f:Nat) (x:Tr) (q:List Tok) (l:jz),l.length<=f->Left P r q l->∀g,q.length<=g->(∀ts a u,Q ts=.ok a u->u.length<=ts.length)->∃d,ja Q lv g x q=.ok (oN S lv f x l).1 d/\Left P r d (oN S lv f x l).2:=by
 intro f;induction f with
 | zero=>
  intro x q l hf c g _ _;obtain rfl:l=[]:=List.length_eq_zero_iff.1 (by omega);cases c with
  | none h=>
   refine⟨r,?_,.none h⟩;cases g with
   | zero=>rfl
   | succ g=>unfold ja;rw[if_neg (by omega)];rfl
 | succ f p=>
  intro x q l hf c g i j;cases c with
  | none h=>
   refine⟨r,?_,.none h⟩;cases g with
   | zero=>rfl
   | succ g=>unfold ja;rw[if_neg (by omega)];rfl
  | @some s q y l t k=>
   cases g with
   | zero=>simp at i
   | succ g=>
    by_cases b:dh s=lv
    ·obtain⟨m,n,v⟩:=o q y l k;have E:=hS y l;have F:=j q _ m n;simp only[iz] at hf i;obtain⟨w,z,B⟩:=p (eK s [x,(S y l).1]) m (S y l).2 (by omega) v g (by omega) j;have e:oN S lv (f+1) x ((s,y)::l)=oN S lv f (eK s [x,(S y l).1]) (S y l).2:=(by show(if dh s=lv then _ else _)=_;rw[if_pos b]);rw[e];refine⟨w,?_,B⟩;show(if dW (nx (s::q)).2.2=lv then(Q q).bind _ else _)=_;rw[if_pos (by exact b),n];exact z
    ·have e:oN S lv (f+1) x ((s,y)::l)=(x,(s,y)::l):=(by show(if dh s=lv then _ else _)=_;rw[if_neg b]);rw[e];refine⟨s::q,?_,.some t k⟩;show(if dW (nx (s::q)).2.2=lv then _ else _)=_;rw[if_neg (by exact b)]
theorem apO {P:List Tok->aA Tr}(c:du P){r:List Tok}:∀j,j<=5->∀ts x l,Seq P ts x l r->∃q,bd P j ts=.ok (eC j x l).1 q/\Left P r q (eC j x l).2:=by
 intro j;induction j with
 | zero=>intro _ ts x l h;exact h.first
 | succ j b=>
  intro m ts x l h;obtain⟨q,d,e⟩:=b (by omega) ts x l h;obtain⟨f,g,i⟩:=aiS (Q:=bd P j) (S:=eC j) (lv:=5 - j) (by omega) (b (by omega)) (Pn j) (eC j x l).2.length (eC j x l).1 q (eC j x l).2 (aD _) e q.length (aD _) (fun ts a k h=>(Du c j ts a k h).length_le);refine⟨f,?_,i⟩;show(bd P j ts).bind _=_;rw[d];exact g
theorem abl {P:List Tok->aA Tr}(c:du P){ts r:List Tok}{x:Tr}{l:jz}(h:Seq P ts x l r):bd P 5 ts=.ok (GG [] x l) r:=by
 obtain⟨q,d,a⟩:=apO c 5 (aD _) ts x l h;have b:=acg 5 (aD _) x l;rw[aft x l h.aeR,d];generalize (eC 5 x l).2=m at a b;cases a with
 | none _=>rfl
 | some e _=>have:=b _ _ _ rfl;omega
theorem RE {P:List Tok->aA Tr}{Q:List Tok->aA Tr}{lv:Nat}{b:Int}(j:∀ts,zt P ts b p->Q ts=.no b p\/∃x s q,Q ts=.ok x (s::q)/\dh s<=lv/\0<dh s/\zt P q b p)(k:∀ts a u,Q ts=.ok a u->u.length<=ts.length):
 ∀(g:Nat) (x:Tr) (s:Tok) (q:List Tok),(s::q).length<=g->dh s<=lv->0<dh s->zt P q b p->ja Q lv g x (s::q)=.no b p\/∃l c d,ja Q lv g x (s::q)=.ok l (c::d)/\dh c<lv/\0<dh c/\zt P d b p:=by
 intro g;induction g with
 | zero=>intro x s q h;simp at h
 | succ g m=>
  intro x s q n z o hn;by_cases i:dh s=lv
  ·have e:ja Q lv (g+1) x (s::q)=(Q q).bind fun y r=>ja Q lv g (eK s [x,y]) r:=(by show(if dW (nx (s::q)).2.2=lv then _ else _)=_;rw[if_pos (by exact i)];rfl);rw[e];rcases j q hn with f |⟨y,c,d,f,t,v,w⟩
   ·rw[f];exact .inl rfl
   ·rw[f];have:=k q _ _ f;simp only[iz] at n this;exact m (eK s [x,y]) c d (by simp only[iz];omega) t v w
  ·refine .inr ⟨x,s,q,?_,by omega,o,hn⟩;show(if dW (nx (s::q)).2.2=lv then _ else _)=_;rw[if_neg (by exact i)]
theorem apP {P:List Tok->aA Tr}(l:du P):∀j,j<=5->∀ts,zt P ts c p->bd P j ts=.no c p\/∃x s q,bd P j ts=.ok x (s::q)/\dh s<=5 - j/\0<dh s/\zt P q c p:=by
 intro j;induction j with
 | zero=>
  intro _ ts h;cases h with
  | here h=>exact .inl h
  | more b f g=>exact .inr ⟨_,_,_,b,JK _,f,g⟩
 | succ j k=>
  intro w ts h;have m:∀ts a d,bd P j ts=.ok a d->d.length<=ts.length:=fun ts a d h=>(Du l j ts a d h).length_le;rcases k (by omega) ts h with b |⟨x,s,q,b,f,g,n⟩
  ·left
   show(bd P j ts).bind _=_;rw[b];rfl
  ·have e:bd P (j+1) ts=ja (bd P j) (5 - j) (s::q).length x (s::q):=(by show(bd P j ts).bind _=_;rw[b];rfl);rw[e];rcases RE (lv:=5 - j) (k (by omega)) m (s::q).length x s q (aD _) f g n with i |⟨o,r,t,i,y,u,v⟩
   ·exact .inl i
   ·exact .inr ⟨o,r,t,i,by omega,u,v⟩
theorem abm {P:List Tok->aA Tr}(a:du P){ts:List Tok}(h:zt P ts c p):bd P 5 ts=.no c p:=by
 rcases apP a 5 (aD _) ts h with h |⟨x,s,q,_,b,d,_⟩
 ·exact h
 ·omega
end ag
section
namespace Lex
open Go
def Good (k:Int)(t:Lu):Prop:=t≠[]/\k≠0/\dJ ak t=0/\∀r:Lu,(r=[]\/∃r',r=32::r')->iF (t++r)=(k,t,0)
theorem QQ (p:Int->Bool)(l:Lu):bX p (l.take (bX p l))=bX p l/\∀c∈l.take (bX p l),p (c.toNat:Int)=ap:=by
 induction l with
 | nil=>simp[bX]
 | cons a r b=>
  simp only[bX];cases h:p (a.toNat:Int)
  ·simp[bX]
  ·simp only[if_true,List.take_succ_cons,bX,h,b.1,true_and,List.mem_cons];rintro c (rfl | d)
   ·exact h
   ·exact b.2 c d
theorem Xe (p:Int->Bool)(t r:Lu)(b:∀c∈t,p (c.toNat:Int)=ap)(e:r=[]\/∃d,r=32::d)(f:p 32=ak):bX p (t++r)=t.length:=by
 induction t with
 | nil=>
  rcases e with rfl |⟨d,rfl⟩
  ·rfl
  ·simp[bX,f]
 | cons a t g=>
  simp only[List.cons_append,bX,b a (by simp),if_true,iz];rw[g (fun c h=>b c (by simp[h]))]
theorem FP {t:Lu}(h:t≠[])(r:Lu):c0 (t++r)=c0 t:=by
 match t,h with
 | a::t,_=>rfl
theorem abV {l:Lu}(h:0<n):c0 (l.take n)=c0 l:=by
 match l,n,h with
 |[],_,_=>simp
 | a::l,n+1,_=>rfl
theorem OW {t:Lu}(b:mi (c0 t)=ak)(c:(c0 t==35)=ak):dJ ak t=0:=by
 match t with
 |[]=>rfl
 | a::t=>
  have d:mi ((a.toNat:Nat):Int)=ak:=b;have e:(((a.toNat:Nat):Int)==35)=ak:=c;simp only[dJ,d,e];rfl
theorem aqh (h:gx c=ap):mi c=ak/\(c==35)=ak:=by
 simp[gx] at h;simp[mi];omega
theorem aoa (h:ej c=ap):mi c=ak/\(c==35)=ak:=by
 simp[ej] at h;simp[mi];omega
theorem ahP (h:rG c=ap):mi c=ak/\(c==35)=ak/\gx c=ak/\ej c=ak:=by
 simp[rG] at h;simp[mi,gx,ej];omega
theorem aee {t:Lu}(h:mO t=ap):mi (c0 t)=ak/\(c0 t==35)=ak/\gx (c0 t)=ak/\ej (c0 t)=ak/\t.length=2/\t≠[]:=by
 simp only[mO,Bool.or_eq_true,beq_iff_eq] at h;rcases h with((((h | h)| h)| h)| h)| h<;>subst h<;>decide
theorem aqg {l:Lu}(f:l≠[])(a:gx (c0 l)=ap)(h:sM (l.take (bX dY l))=(k,l.take (bX dY l),0)):Good k (l.take (bX dY l)):=by
 have g:=GF dY l (by simp[dY,a]) f;have i:=wV dY l;have c:l.take (bX dY l)≠[]:=(by intro e;have:=congrArg List.length e;rw[List.length_take,Nat.min_eq_left i,List.length_nil] at this;omega);have b:c0 (l.take (bX dY l))=c0 l:=abV g;have d:=aqh a;refine⟨c,(RK h).1,OW (by rw[b];exact d.1) (by rw[b];exact d.2),fun r j=> ?_⟩;rw[O0 (by rw[FP c,b];exact a),Xe dY _ r (QQ dY l).2 j (by decide)];simp[h]
theorem anZ {l:Lu}(f:l≠[])(g:gx (c0 l)=ak)(b:ej (c0 l)=ap)(h:pM (l.take (bX ej l))=(k,l.take (bX ej l),0)):Good k (l.take (bX ej l)):=by
 have i:=GF ej l b f;have j:=wV ej l;have c:l.take (bX ej l)≠[]:=(by intro e;have:=congrArg List.length e;rw[List.length_take,Nat.min_eq_left j,List.length_nil] at this;omega);have a:c0 (l.take (bX ej l))=c0 l:=abV i;have d:=aoa b;refine⟨c,(Pb h).1,OW (by rw[a];exact d.1) (by rw[a];exact d.2),fun r m=> ?_⟩;rw[OZ (by rw[FP c,a];exact g) (by rw[FP c,a];exact b),Xe ej _ r (QQ ej l).2 m (by decide)];simp[h]
theorem aed {t:Lu}(h:mO t=ap):Good 4 t:=by
 obtain⟨c,d,f,g,i,a⟩:=aee h;refine⟨a,by decide,OW c d,fun r _=> ?_⟩;have e:(t++r).take 2=t:=(by rw[List.take_append_of_le_length (by omega),List.take_of_length_le (by omega)]);have b:jp (t++r)=t:=(by unfold jp;rw[e,if_pos h]);rw[Ln (by rw[FP a];exact f) (by rw[FP a];exact g) (by rw[b];exact a),b]
theorem ahO {a:UInt8}(h:rG ((a.toNat:Nat):Int)=ap):Good 4 [a]:=by
 obtain⟨c,d,e,f⟩:=ahP h;refine⟨by simp,by decide,OW c d,fun r g=> ?_⟩;have i:mO (([a]++r).take 2)=ak:=by
  rcases g with rfl |⟨j,rfl⟩
  ·simp[mO]
  ·simp[mO]
 have b:jp ([a]++r)=[a]:=(by unfold jp;rw[i,if_neg (by simp),if_pos (show rG (c0 ([a]++r))=ap from h)];rfl);rw[Ln (by rw[FP (by simp)];exact e) (by rw[FP (by simp)];exact f) (by rw[b];simp),b]
theorem amX {l t:Lu}(h:iF l=(k,t,0))(c:l≠[]):Good k t:=by
 cases ha:gx (c0 l)
 ·cases hd:ej (c0 l)
  ·by_cases d:jp l=[]
   ·rw[Tn ha hd d] at h;simp at h
   ·rw[Ln ha hd d] at h;simp only[Prod.mk.injEq,and_true] at h;obtain⟨rfl,rfl⟩:=h;by_cases b:mO (l.take 2)=ap
    ·have e:jp l=l.take 2:=(by unfold jp;rw[if_pos b]);rw[e];exact aed b
    ·by_cases f:rG (c0 l)=ap
     ·match l,c with
      | a::l',_=>
       have e:jp (a::l')=[a]:=(by unfold jp;rw[if_neg b,if_pos f];rfl);rw[e];exact ahO f
     ·exact absurd (by unfold jp;rw[if_neg b,if_neg f]) d
  ·rw[OZ ha hd] at h;have:=(Pb h).2;subst this;exact anZ c ha hd h
 ·rw[O0 ha] at h;have:=(RK h).2;subst this;exact aqg c ha h
def P4 (l:Lu)(t:Tok):Prop:=t.2.1<=l.length/\t.2.2=(l.drop t.2.1).take t.2.2.length/\Good t.1 t.2.2/\t.2.2.length<=l.length
theorem afd (l:Lu):∀(f p:Nat) (acc a:List Tok) (q:Nat),p<=l.length->lZ l f p acc=(a,0,q)->acc.length<=600->(∀t∈acc,P4 l t)->(∀t∈a,P4 l t)/\a.length<=600:=by
 intro f;induction f with
 | zero=>intro p acc a q _ h _ _;simp[lZ] at h;obtain⟨rfl,_⟩:=h;simp
 | succ f o=>
  intro p acc a q r h s i;have u:=Th l p r;by_cases g:p+dJ ak (l.drop p)=l.length
  ·rw[Jt (step_end rfl g)] at h;simp only[Prod.mk.injEq] at h;obtain⟨rfl,_⟩:=h;exact⟨i,s⟩
  ·have j:l.drop (p+dJ ak (l.drop p))≠[]:=(by intro e;have:=congrArg List.length e;simp at this;omega);obtain⟨k,t,c,hf⟩:∃k t c,iF (l.drop (p+dJ ak (l.drop p)))=(k,t,c):=⟨_,_,_,rfl⟩;by_cases b:c=0
   ·subst b;have m:=MY rfl g hf;have d:=OY hf j;by_cases n:acc.length=600
    ·rw[M2 m d.1 n] at h;simp at h
    ·rw[M1 m d.1 n] at h;have v:=d.2.2.2;rw[List.length_drop] at v;refine o _ _ _ _ (by omega) h (by simp;omega) ?_;intro x hx;rcases List.mem_append.1 hx with hx | hx
     ·exact i x hx
     ·simp at hx;subst hx;exact⟨u,d.2.2.1,amX hf j,by show t.length<=_;omega⟩
   ·rw[Ex (Es rfl g hf b) b] at h;simp only[Prod.mk.injEq] at h;exact absurd h.2.1 b
theorem LL {l:Lu}{a:List Tok}(h:jK l=(a,0,q)):(∀t∈a,P4 l t)/\a.length<=600/\l.length<=4000:=by
 by_cases b:4000<l.length
 ·rw[QL b] at h;simp at h
 ·rw[QM b] at h;have:=afd l _ 0 [] a q (by omega) h (by simp) (by simp);exact⟨this.1,this.2,by omega⟩
end Lex
end
namespace Lex
def kR (l:Lu):Bool:= !l.isEmpty && decide (l.length<=12) && gx (c0 l) && decide (bX dY l=l.length) && !i8 l
theorem Rv {l:Lu}(a:l≠[])(h:l.length<=12)(b:gx (c0 l)=ap)(c:bX dY l=l.length):kR l= !i8 l:=by
 have e:l.isEmpty=ak:=(by simpa using a);simp[kR,e,h,b,c]
theorem Ru {l:Lu}(h:¬l.length<=12):kR l=ak:=by simp[kR,h]
theorem Yp {l:Lu}(h:gx (c0 l)=ak):kR l=ak:=by simp[kR,h]
theorem Yo {l:Lu}(h:¬bX dY l=l.length):kR l=ak:=by simp[kR,h]
theorem aiu {l:Lu}(h:i8 l=ap):kR l=ak:=by simp[kR,h]
end Lex
namespace Lex
abbrev KT:=Int×Lu
def bare (t:Tok):KT:=(t.1,t.2.2)
inductive Sc:Lu->List KT->Prop
 | nil {l:Lu} (h:l.drop (dJ false l)=[]):Sc l []
 | cons {l r t:Lu} {k:Int} {ks:List KT} (hr:l.drop (dJ false l)=r) (h0:r≠[]) (hf:iF r=(k,t,0)) (hs:Sc (r.drop t.length) ks):Sc l ((k,t)::ks)
theorem Sc.pO {l:Lu}{a b:List KT}(h:Sc l a)(g:Sc l b):a=b:=by
 induction h generalizing b with
 | nil h=>
  cases g with
  | nil _=>rfl
  | cons c d _ _=>exact absurd (c.symm.trans h) d
 | cons c d hf _ i=>
  cases g with
  | nil h=>exact absurd (c.symm.trans h) d
  | cons j n k m=>
   have e:=c.symm.trans j;subst e;have f:=hf.symm.trans k;simp only[Prod.mk.injEq,and_true] at f;obtain⟨rfl,rfl⟩:=f;rw[i m]
theorem afa (l:Lu):∀(f p:Nat) (acc b:List Tok) (q:Nat),p<=l.length->l.length - p<f->lZ l f p acc=(b,0,q)->∃ks,Sc (l.drop p) ks/\b.map bare=acc.map bare++ks:=by
 intro f;induction f with
 | zero=>intro p acc b q m hf;omega
 | succ f v=>
  intro p acc b q m z h;have B:=Th l p m;obtain⟨a,d⟩:∃a,a=p+dJ ak (l.drop p):=⟨_,rfl⟩;have n:(l.drop p).drop (dJ ak (l.drop p))=l.drop a:=(by rw[List.drop_drop,d]);by_cases g:a=l.length
  ·rw[Jt (step_end d.symm g)] at h;simp only[Prod.mk.injEq] at h;obtain⟨rfl,_,_⟩:=h;exact⟨[],.nil (by rw[n,g,List.drop_length]),by simp⟩
  ·obtain⟨k,t,c,i⟩:∃k t c,iF (l.drop a)=(k,t,c):=⟨_,_,_,rfl⟩;have o:l.drop a≠[]:=(by intro e;have:=congrArg List.length e;rw[List.length_drop,List.length_nil] at this;omega);by_cases j:c=0
   ·subst j;have r:=MY d.symm g i;obtain⟨s,C,_,w⟩:=OY i o;rw[List.length_drop] at w;by_cases u:acc.length=600
    ·rw[M2 r s u] at h;simp at h
    ·rw[M1 r s u] at h;obtain⟨ks,x,y⟩:=v (a+t.length) _ b q (by omega) (by omega) h;refine⟨(k,t)::ks,.cons n o i ?_,?_⟩
     ·rw[List.drop_drop];exact x
     ·rw[y];simp[bare]
   ·rw[Ex (Es d.symm g i j) j] at h;simp only[Prod.mk.injEq] at h;exact absurd h.2.1 j
theorem aqj {l:Lu}{a:List Tok}(h:jK l=(a,0,q)):Sc l (a.map bare):=by
 unfold jK at h;split at h
 ·simp at h
 ·obtain⟨d,b,c⟩:=afa l _ 0 [] a q (Nat.zero_le _) (by omega) h;rw[c];simpa using b
theorem Sc.tok {t r:Lu}{ks:List KT}(a:t≠[])(b:dJ ak (t++r)=0)(hf:iF (t++r)=(k,t,0))(h:Sc r ks):Sc (t++r) ((k,t)::ks):=by
 refine .cons (r:=t++r) (by rw[b];rfl) (by simp[a]) hf ?_;rw[List.drop_left];exact h
def Stop (r:Lu):Prop:=r=[]\/dY (c0 r)=ak
theorem aob (h:ej c=ap):gx c=ak:=by
 simp[ej] at h;simp[gx];omega
end Lex
section
namespace Lex
def Gp (k:KT):Prop:=(k.1=3/\i8 k.2=ap)\/(k.1=4/\dY (c0 k.2)=ak/\k.2≠[])\/(k.1=1/\gx (c0 k.2)=ap/\i8 k.2=ak)\/(k.1=2/\ej (c0 k.2)=ap)
theorem Wu {s:Lu}(h:i8 s=ap):gx (c0 s)=ap:=by
 simp only[i8,Bool.or_eq_true,beq_iff_eq] at h;rcases h with(((((((((((((((((((h | h)| h)| h)| h)| h)| h)| h)| h)| h)| h)| h)| h)| h)| h)| h)| h)| h)| h)| h)| h<;>rw[h]<;>decide
theorem WP {p:Int->Bool}{l:Lu}(b:l≠[])(h:p (c0 l)=ap):c0 (l.take (bX p l))=c0 l:=by
 match l,b with
 | a::r,_=>
  have c:p (a.toNat:Int)=ap:=h;have e:bX p (a::r)=bX p r+1:=(by simp[bX,c]);rw[e];rfl
theorem amW {l t:Lu}(h:iF l=(k,t,0))(f:l≠[]):Gp (k,t):=by
 unfold iF at h;split at h
 ·rename_i d;have b:c0 (l.take (bX dY l))=c0 l:=WP f (by simp[dY,d]);unfold sM at h;split at h
  ·simp at h
  ·split at h
   ·rename_i g;simp only[Prod.mk.injEq,and_true] at h;obtain⟨rfl,rfl⟩:=h;exact .inl ⟨rfl,g⟩
   ·rename_i g;simp only[Prod.mk.injEq,and_true] at h;obtain⟨rfl,rfl⟩:=h;exact .inr (.inr (.inl ⟨rfl,by show gx (c0 _)=ap;rw[b];exact d,by simpa using g⟩))
 ·rename_i d;split at h
  ·rename_i e;have b:=WP f e;unfold pM at h;split at h
   ·simp at h
   ·simp only[Prod.mk.injEq,and_true] at h;obtain⟨rfl,rfl⟩:=h;exact .inr (.inr (.inr ⟨rfl,by show ej (c0 _)=ap;rw[b];exact e⟩))
  ·rename_i e;split at h
   ·simp at h
   ·rename_i i;simp only[Prod.mk.injEq,and_true] at h;obtain⟨rfl,rfl⟩:=h;have c:jp l≠[]:=(by simpa using i);refine .inr (.inl ⟨rfl,?_,c⟩);show dY (c0 (jp l))=ak;have hn:dY (c0 l)=ak:=(by simp[dY,d,e]);have b:c0 (jp l)=c0 l:=by
     unfold jp at c⊢
     match l,f with
     | a::r,_=>
      split
      ·cases r<;>rfl
      ·rename_i j;rw[if_neg j] at c;split
       ·rfl
       ·rename_i m;rw[if_neg m] at c;exact absurd rfl c
    rw[b];exact hn
theorem aff {l:Lu}{ks:List KT}(h:Sc l ks):∀k∈ks,Gp k:=by
 induction h with
 | nil _=>intro k a;cases a
 | cons _ b hf _ c=>
  intro k a;rcases List.mem_cons.1 a with rfl | a
  ·exact amW hf b
  ·exact c k a
theorem afc {l:Lu}{a:List Tok}(h:jK l=(a,0,q)):∀t∈a,Gp (bare t):=fun t b=>aff (aqj h) _ (List.mem_map.2 ⟨t,b,rfl⟩)
end Lex
namespace ag
open Lex (KT bare Gp)
def Good (ts:List Tok):Prop:=∀t∈ts,Gp (bare t)
theorem Good.tail {ts:List Tok}(h:Good ts):Good ts.tail:=fun t a=>h t (List.mem_of_mem_tail a)
theorem Good.dn {a b:List Tok}(h:Good b)(c:a<:+b):Good a:=fun t d=>h t (c.subset d)
def Fix (s:Lu):Prop:=Lex.i8 s=ap\/Lex.dY (Lex.c0 s)=ak
theorem amV {t:Tok}(d:Gp (bare t)){s:Lu}(a:Fix s)(e:t.2.2=s):t.1=3\/t.1=4:=by
 subst e;rcases d with⟨h,_⟩|⟨h,_⟩|⟨_,c,f⟩|⟨_,c⟩
 ·exact .inl h
 ·exact .inr h
 ·have b:Lex.gx (Lex.c0 t.2.2)=ap:=c;have g:Lex.i8 t.2.2=ak:=f;rcases a with a | a
  ·rw[g] at a;cases a
  ·simp[Lex.dY,b] at a
 ·have b:Lex.ej (Lex.c0 t.2.2)=ap:=c;rcases a with a | a
  ·have:=Lex.Wu a;rw[Lex.aob b] at this;cases this
  ·simp[Lex.dY,b] at a
def gg (s:Lu)(ts:List Tok):Bool:=aO s ts && ((nx ts).1==3 ||(nx ts).1==4)
theorem Ew {s:Lu}{ts:List Tok}(a:Good ts)(b:Fix s)(c:s≠[]):gg s ts=aO s ts:=by
 unfold gg;cases hi:aO s ts with
 | false=>rfl
 | true=>
  match ts with
  |[]=>
   unfold aO nx at hi;simp at hi;exact absurd hi c
  | t::q=>
   have d:t.2.2=s:=(by unfold aO nx at hi;simpa using hi);rcases amV (a t (by simp)) b d with h | h
   ·simp[nx,h]
   ·simp[nx,h]
def Cu:Lu:=[116,114,117,101]
def Cw:Lu:=[102,97,108,115,101]
def Cv:Lu:=[114,101,108,101,97,115,101]
def oJ (e:Nat)(E P:List Tok->aA Tr)(ts:List Tok):aA Tr:=
 if(nx ts).1=2 then .ok (.mk 1 (nx ts).2.1 (wY (nx ts).2.2) 1 (ba []) [] []) ts.tail
 else if gg Cu ts=ap then .ok (.mk 1 (nx ts).2.1 1 2 (ba []) [] []) ts.tail
 else if gg Cw ts=ap then .ok (.mk 1 (nx ts).2.1 0 2 (ba []) [] []) ts.tail
 else if gg [45] ts=ap\/gg [33] ts=ap then(P ts.tail).bind fun x r=>.ok (eK (nx ts) [x]) r
 else if gg [40] ts=ap then(E ts.tail).bind fun x r=>(aR e [41] r).bind fun _ r2=>.ok x r2
 else if gg Cv ts=ap then qd e E ts
 else(bR e ts).bind fun s r=>if aO [40] r=ap then(ei e [40] [44] [41] 4 E r).bind fun a r2=>.ok (.mk 4 (nx ts).2.1 0 0 s [] a) r2 else .ok (.mk 2 (nx ts).2.1 0 0 s [] []) r
theorem mR (t:Tok)(q:List Tok):nx (t::q)=t:=rfl
theorem ahM {E P:List Tok->aA Tr}{ts:List Tok}(m:Good ts):oJ e E P ts=gE e E P ts:=by
 have l:=Ew m (s:=Cu) (.inl (by decide)) (by decide);have n:=Ew m (s:=Cw) (.inl (by decide)) (by decide);have u:=Ew m (s:=[45]) (.inr (by decide)) (by decide);have v:=Ew m (s:=[33]) (.inr (by decide)) (by decide);have C:=Ew m (s:=[40]) (.inr (by decide)) (by decide);have K:=Ew m (s:=Cv) (.inl (by decide)) (by decide)
 match ts with
 |[]=>rfl
 | t::q=>
  have V:=m t (by simp);have o:∀{s:Lu},t.2.2=s->aO s (t::q)=ap:=fun{s} h=>(by unfold aO;rw[mR,h];simp);have no:∀{s:Lu},t.2.2≠s->¬aO s (t::q)=ap:=fun{s} h=>(by unfold aO;rw[mR];simpa using h);rcases V with⟨h,R⟩|⟨h,hn,h0⟩|⟨h,W,R⟩|⟨h,hd⟩
  ·
   have S:t.1=3:=h;have d:Lex.i8 t.2.2=ap:=R;have L:t.2.2≠[45]:=fun e=>(by rw[e] at d;revert d;decide);have N:t.2.2≠[33]:=fun e=>(by rw[e] at d;revert d;decide);have F:t.2.2≠[40]:=fun e=>(by rw[e] at d;revert d;decide);have b:¬(nx (t::q)).1=2:=(by rw[mR];omega);have j:¬(nx (t::q)).1=1:=(by rw[mR];omega);have T:¬((nx (t::q)).2.2=[45]\/(nx (t::q)).2.2=[33]):=by
    rw[mR];rintro(h | h)
    ·exact L h
    ·exact N h
   have p:¬(aO [45] (t::q)=ap\/aO [33] (t::q)=ap):=by
    rintro(h | h)
    ·exact no L h
    ·exact no N h
   by_cases c:t.2.2=Cu
   ·have f:oJ e E P (t::q)=.ok (.mk 1 (nx (t::q)).2.1 1 2 (ba []) [] []) (t::q).tail:=(by unfold oJ;rw[l,if_neg b,if_pos (o c)]);have i:gE e E P (t::q)=.ok (.mk 1 (nx (t::q)).2.1 1 2 (ba []) [] []) (t::q).tail:=(by unfold gE;rw[if_neg b,if_neg j,if_neg (by rw[mR,c];decide),if_neg T,if_pos (by rw[mR,c];rfl)]);rw[f,i]
   by_cases k:t.2.2=Cw
   ·have f:oJ e E P (t::q)=.ok (.mk 1 (nx (t::q)).2.1 0 2 (ba []) [] []) (t::q).tail:=(by unfold oJ;rw[l,n,if_neg b,if_neg (no c),if_pos (o k)]);have i:gE e E P (t::q)=.ok (.mk 1 (nx (t::q)).2.1 0 2 (ba []) [] []) (t::q).tail:=(by unfold gE;rw[if_neg b,if_neg j,if_neg (by rw[mR,k];decide),if_neg T,if_neg (by rw[mR];exact c),if_pos (by rw[mR,k];rfl)]);rw[f,i]
   by_cases Q:t.2.2=Cv
   ·have f:oJ e E P (t::q)=qd e E (t::q):=(by unfold oJ;rw[l,n,u,v,C,K,if_neg b,if_neg (no c),if_neg (no k),if_neg p,if_neg (no F),if_pos (o Q)]);have i:gE e E P (t::q)=qd e E (t::q):=(by unfold gE;rw[if_neg b,if_neg j,if_pos (by rw[mR,Q];rfl)]);rw[f,i]
   ·have f:oJ e E P (t::q)=.no 1 (bI e (t::q)):=(by unfold oJ;rw[l,n,u,v,C,K,if_neg b,if_neg (no c),if_neg (no k),if_neg p,if_neg (no F),if_neg (no Q)];unfold bR;rw[if_neg j];rfl);have i:gE e E P (t::q)=.no 1 (bI e (t::q)):=(by unfold gE;rw[if_neg b,if_neg j,if_neg (by rw[mR];exact Q),if_neg T,if_neg (by rw[mR];exact c),if_neg (by rw[mR];exact k)];unfold EU aR;rw[if_neg (no F)];rfl);rw[f,i]
  ·
   have S:t.1=4:=h;have w:Lex.dY (Lex.c0 t.2.2)=ak:=hn;have y:t.2.2≠Cu:=fun e=>(by rw[e] at w;revert w;decide);have z:t.2.2≠Cw:=fun e=>(by rw[e] at w;revert w;decide);have G:t.2.2≠Cv:=fun e=>(by rw[e] at w;revert w;decide);have b:¬(nx (t::q)).1=2:=(by rw[mR];omega);have j:¬(nx (t::q)).1=1:=(by rw[mR];omega);by_cases c:t.2.2=[45]\/t.2.2=[33]
   ·have f:oJ e E P (t::q)=(P (t::q).tail).bind fun x r=>.ok (eK (nx (t::q)) [x]) r:=by
     unfold oJ;rw[l,n,u,v,if_neg b,if_neg (no y),if_neg (no z),if_pos];rcases c with h | h
     ·exact .inl (o h)
     ·exact .inr (o h)
    have i:gE e E P (t::q)=(P (t::q).tail).bind fun x r=>.ok (eK (nx (t::q)) [x]) r:=(by unfold gE;rw[if_neg b,if_neg j,if_neg (by rw[mR];exact G),if_pos (by rw[mR];exact c)]);rw[f,i]
   have p:¬(aO [45] (t::q)=ap\/aO [33] (t::q)=ap):=by
    rintro(h | h)
    ·exact no (fun g=>c (.inl g)) h
    ·exact no (fun g=>c (.inr g)) h
   have i:gE e E P (t::q)=EU e E (t::q):=(by unfold gE;rw[if_neg b,if_neg j,if_neg (by rw[mR];exact G),if_neg (by rw[mR];exact c),if_neg (by rw[mR];exact y),if_neg (by rw[mR];exact z)]);rw[i];unfold EU aR;by_cases k:t.2.2=[40]
   ·have f:oJ e E P (t::q)=(E (t::q).tail).bind fun x r=>(aR e [41] r).bind fun _ X=>.ok x X:=(by unfold oJ;rw[l,n,u,v,C,if_neg b,if_neg (no y),if_neg (no z),if_neg p,if_pos (o k)]);rw[f,if_pos (o k)];rfl
   ·have f:oJ e E P (t::q)=.no 1 (bI e (t::q)):=(by unfold oJ;rw[l,n,u,v,C,K,if_neg b,if_neg (no y),if_neg (no z),if_neg p,if_neg (no k),if_neg (no G)];unfold bR;rw[if_neg j];rfl);rw[f,if_neg (no k)];rfl
  ·
   have S:t.1=1:=h;have d:Lex.i8 t.2.2=ak:=R;have B:Lex.gx (Lex.c0 t.2.2)=ap:=W;have y:t.2.2≠Cu:=fun e=>(by rw[e] at d;revert d;decide);have z:t.2.2≠Cw:=fun e=>(by rw[e] at d;revert d;decide);have G:t.2.2≠Cv:=fun e=>(by rw[e] at d;revert d;decide);have L:t.2.2≠[45]:=fun e=>(by rw[e] at B;revert B;decide);have N:t.2.2≠[33]:=fun e=>(by rw[e] at B;revert B;decide);have F:t.2.2≠[40]:=fun e=>(by rw[e] at B;revert B;decide);have b:¬(nx (t::q)).1=2:=(by rw[mR];omega);have j:(nx (t::q)).1=1:=(by rw[mR];omega);have p:¬(aO [45] (t::q)=ap\/aO [33] (t::q)=ap):=by
    rintro(h | h)
    ·exact no L h
    ·exact no N h
   have i:gE e E P (t::q)=qS e E (t::q):=(by unfold gE;rw[if_neg b,if_pos j]);rw[i];unfold oJ;rw[l,n,u,v,C,K,if_neg b,if_neg (no y),if_neg (no z),if_neg p,if_neg (no F),if_neg (no G)];unfold bR qS;rw[if_pos j];rfl
  ·
   have S:t.1=2:=h;have b:(nx (t::q)).1=2:=(by rw[mR];omega);unfold oJ gE;rw[if_pos b,if_pos b]
end ag
end
namespace Act
variable {α:Type} [DecidableEq α]
def has (ls:List α)(v:α):Bool:=decide (v∈ls)
def pos (ls:List α)(v:α):Nat:=ls.idxOf v
def Aa (ls:List α)(v:α):Int:=if v∈ls then(pos ls v:Int) else -1
theorem amg {ls:List α}{v:α}:has ls v=ap↔v∈ls:=by simp[has]
theorem XC {ls:List α}{v:α}(h:v∈ls):Aa ls v=(pos ls v:Int):=by simp[Aa,h]
theorem XB {ls:List α}{v:α}(h:v ∉ ls):Aa ls v= -1:=by simp[Aa,h]
theorem agH {ls:List α}{v:α}{k:Nat}(a:k<ls.length)(hn:v ∉ ls.take k)(e:ls[k]=v):pos ls v=k:=by
 have:ls=ls.take k++ls[k]::ls.drop (k+1):=(by simp);unfold pos;rw[this,List.idxOf_append,if_neg hn,e];simp;omega
theorem agI {ls:List α}{v:α}{k:Nat}(a:k<ls.length)(hn:v ∉ ls.take k)(e:ls[k]=v):Aa ls v=(k:Int):=by
 rw[XC (e▸List.getElem_mem a),agH a hn e]
theorem agJ {ls:List α}{v:α}:decide (0<=Aa ls v)=has ls v:=by
 by_cases h:v∈ls
 ·rw[XC h];simp[h,has]
 ·rw[XB h];simp[h,has]
omit [DecidableEq α] in
theorem ahZ {ls:List α}{v:α}{k:Nat}(a:k<ls.length)(hn:v ∉ ls.take k)(e:ls[k]≠v):v ∉ ls.take (k+1):=by
 rw[List.take_succ_eq_append_getElem a];simp only[List.mem_append,List.mem_singleton,not_or];exact⟨hn,fun g=>e g.symm⟩
inductive Way (ps:List (α×α)):α->α->Prop
 | refl (a:α):Way ps a a
 | step {a b c:α}:(a,b)∈ps->Way ps b c->Way ps a c
omit [DecidableEq α] in
theorem Way.trans {ps:List (α×α)}{a b c:α}(h:Way ps a b)(g:Way ps b c):Way ps a c:=by
 induction h with
 | refl=>exact g
 | step e _ d=>exact .step e (d g)
omit [DecidableEq α] in
theorem Way.one {ps:List (α×α)}{a b:α}(h:(a,b)∈ps):Way ps a b:=.step h (.refl _)
omit [DecidableEq α] in
theorem Way.mono {ps c:List (α×α)}(d:∀p∈ps,p∈c){a b:α}(h:Way ps a b):Way c a b:=by
 induction h with
 | refl=>exact .refl _
 | step e _ f=>exact .step (d _ e) f
def D (E:Nat->Nat->Bool)(n:Nat):Nat->Nat->Nat->Bool
 | 0,x,y=>decide (x=y/\x<n) || E x y
 | k+1,x,y=>D E n k x y ||(D E n k x k && D E n k k y)
variable (E:Nat->Nat->Bool) (n:Nat)
def anJ (ls:List α)(ps:List (α×α))(x y:Nat):Bool:=ps.any fun p=>pos ls p.1==x && pos ls p.2==y
def whole (ls:List α)(ps:List (α×α))(x y:Nat):Bool:=D (anJ ls ps) ls.length ls.length x y
def cZ (ls:List α)(ps:List (α×α))(a b:α):Bool:=whole ls ps (pos ls a) (pos ls b)
def mid (ls:List α)(ps:List (α×α))(a b:α):List α:=ls.filter fun c=>decide (c≠a) && decide (c≠b) && cZ ls ps a c && cZ ls ps c b
def cover (ls:List α)(ps:List (α×α))(a b:α):Bool:=decide (a≠b) && cZ ls ps a b && (mid ls ps a b).isEmpty
def row (ls:List α)(ps:List (α×α))(a:α)(l:List α):List (α×α):=(l.filter fun b=>cover ls ps a b).map fun b=>(a,b)
end Act
structure Strs (w:au)(ao:Oa)(b off:Nat)(ls:List Bt):Prop where
 dR:0<ls.length->ao=Z (Y b off U)
 cell:∀k (h:k<ls.length),w.cell? (Y b (off+k) U)=Z (H ls[k])
 lt:0<ls.length->b<w.heap.size
theorem Strs.later {a:Oa}{ls:List Bt}(h:Strs w a b off ls)(c:Bl w w'):Strs w' a b off ls:=
 ⟨h.dR,fun k d=>(c.cell (p:=(Y b (off+k) U)) (h.lt (by omega))).trans (h.cell k d),fun hn=>gD (h.lt hn) c.size⟩
theorem Strs.take {c:Oa}{ls:List Bt}(h:Strs w c b off ls)(k:Nat):Strs w c b off (ls.take k):=by
 refine⟨fun a=>h.dR ?_,fun j d=> ?_,fun a=>h.lt ?_⟩
 ·simp at a;omega
 ·simp at d;rw[h.cell j (by omega)];simp
 ·simp at a;omega
structure Uf (w:au)(ao:Oa)(b off:Nat)(ps:List (Bt×Bt)):Prop where
 dR:0<ps.length->ao=Z (Y b off U)
 c0:∀k (h:k<ps.length),w.cell? (Y b (off+k*2) U)=Z (H ps[k].1)
 c1:∀k (h:k<ps.length),w.cell? (Y b (off+k*2+1) U)=Z (H ps[k].2)
 lt:0<ps.length->b<w.heap.size
theorem Uf.later {d:Oa}{ps:List (Bt×Bt)}(h:Uf w d b off ps)(a:Bl w w'):Uf w' d b off ps:=
 ⟨h.dR,fun k c=>(a.cell (p:=(Y b (off+k*2) U)) (h.lt (by omega))).trans (h.c0 k c),fun k c=>(a.cell (p:=(Y b (off+k*2+1) U)) (h.lt (by omega))).trans (h.c1 k c),fun hn=>gD (h.lt hn) a.size⟩
theorem toList_inj {s t:Bt}(h:s.toList=t.toList):s=t:=by
 rw[Lex.jU,Lex.jU] at h;exact ByteArray.ext (Array.ext' h)
theorem apH {s t:Bt}(h:s≠t):(s.toList==t.toList)=ak:=by
 simp only[beq_eq_false_iff_ne];exact fun e=>h (toList_inj e)
theorem akT (h:Oa)(b off n c:Nat)(ls:List Bt)(v:Bt)(w:au)(hn:n=ls.length)(hm:n<=maxLen)(j:Strs w h b off ls):
 aC prog 222 #[O h n c,H v] w fun e w'=>e=aE (A I (Act.Aa ls v))/\w'=w:=by
 have l:Hid (n=ls.length):=hn;clear hn;unfold maxLen at hm;go_enter func222,ntmps222;go_wp2;go_loopw [8] (fun i wr=>∃k:Nat,k<=n/\i=A I k/\v ∉ ls.take k/\wr=w) (fun i _=>n - (intOf i).toNat);case atStart=>exact⟨0,Nat.zero_le _,rfl,by simp,rfl⟩
 case round=>
  obtain⟨k,s,rfl,m,o⟩:=hrel;subst o;have a:Hid (v ∉ ls.take k):=m;clear m;by_cases t:k<n
  ·have p:=l.out;have q:=j.dR (by omega);subst q;have d:k<ls.length:=(by omega);have f0:=j.cell k d;obtain⟨x,hx⟩:∃x,x=ls[k]:=⟨_,rfl⟩;rw[<-hx] at f0;clear p;by_cases e:v=x
   ·have f:Hid (Act.Aa ls v=(k:Int)):=Act.agI d a.out (by rw[<-hx,e]);clear hx;subst e;go_wp2;go_ret;refine⟨?_,rfl⟩;rw[f.out];rfl
   ·have u:=apH e;have r:Hid (v ∉ ls.take (k+1)):=Act.ahZ d a.out (by rw[<-hx];exact fun g=>e g.symm);clear hx e;go_wp2;go_roundw;case rel=>exact⟨k+1,by omega,by go_num,r.out,trivial⟩
    case measure=>simp[intOf];omega
  ·have f:Hid (Act.Aa ls v= -1):=Act.XB (by
    have:=a.out
    rwa [List.take_of_length_le (by have:=l.out;omega)] at this)
   go_wp2;go_ret;refine⟨?_,rfl⟩;rw[f.out];rfl
theorem LD (a:Oa)(b off n c:Nat)(ls:List Bt)(v:Bt)(w:au)(hn:n=ls.length)(hm:n<=maxLen)(f:Strs w a b off ls):
 aC prog 199 #[O a n c,H v] w fun e w'=>e=aE (.bool (Act.has ls v))/\w'=w:=by
 rw[<-Act.agJ];have d:=akT a b off n c ls v w hn hm f;clear hm hn f;obtain⟨p,g⟩:∃p,p=Act.Aa ls v:=⟨_,rfl⟩;rw[<-g] at d⊢;have h:Hid (aC prog 222 #[O a n c,H v] w fun e w'=>e=aE (A I p)/\w'=w):=d;clear d g;go_enter func199,ntmps199;go_wp2_with fail;refine h.mono ?_;rintro e k ⟨rfl,i⟩;have j:=i.symm;subst j;go_wp2;go_ret;exact⟨rfl,rfl⟩
open ag (dW ba)
def lY:Nat->List Bt
 | 0=>[ba [124,124]]
 | 1=>[ba [38,38]]
 | 2=>[ba [61,61],ba [33,61],ba [60],ba [60,61],ba [62],ba [62,61]]
 | 3=>[ba [43],ba [45]]
 | _=>[ba [42],ba [47],ba [37]]
structure gU (w:au)(yH:Nat):Prop where
 Tf:2<yH
 gw:2<w.heap.size
 row:∀i,i<5->∃ao b off c,w.cell? (Y 2 i U)=Z (O ao (lY i).length c)/\Strs w ao b off (lY i)/\b<yH
theorem gU.keeps (h:gU w V)(e:w.heap.size<=w'.heap.size)(f:∀b,b<V->w'.heap[b]? =w.heap[b]?):gU w' V:=by
 refine⟨h.Tf,gD h.gw e,fun i j=> ?_⟩;obtain⟨l,b,off,c,m,d,g⟩:=h.row i j;refine⟨l,b,off,c,(en (a:=(Y _ i U)) (f _ h.Tf)).trans m,⟨d.dR,fun k n=>(en (a:=(Y b _ U)) (f b g)).trans (d.cell k n),fun o=>gD (d.lt o) e⟩,g⟩
theorem gU.mono {a:Nat}(h:gU w V)(d:V<=a):gU w a:=
 ⟨gD h.Tf d,h.gw,fun i e=>by obtain⟨f,b,off,c,g,j,k⟩:=h.row i e;exact⟨f,b,off,c,g,j,by omega⟩⟩
theorem amf (s:Bt)(i:Nat):Act.has (lY i) s=decide (s.data.toList∈(lY i).map (·.data.toList)):=by
 rw[Bool.eq_iff_iff,Act.amg,decide_eq_true_iff,List.mem_map];refine⟨fun h=>⟨s,h,rfl⟩,fun⟨t,a,e⟩=> ?_⟩;have:t=s:=ByteArray.ext (Array.ext' e);rw[<-this];exact a
theorem aju (s:Bt):dW s.data.toList=if Act.has (lY 0) s=ap then 1 else if Act.has (lY 1) s=ap then 2 else if Act.has (lY 2) s=ap then 3 else if Act.has (lY 3) s=ap then 4 else if Act.has (lY 4) s=ap then 5 else 0:=by
 simp only[amf,decide_eq_true_eq];rfl
theorem akD (a b c d e:aw)(w:au):(Instr.index 228 (.agg #[a,b,c,d,e]) (A I 0)).run prog w=.ok a w:=by kernel_rfl
theorem akC (a b c d e:aw)(w:au):(Instr.index 228 (.agg #[a,b,c,d,e]) (A I 1)).run prog w=.ok b w:=by kernel_rfl
theorem akB (a b c d e:aw)(w:au):(Instr.index 228 (.agg #[a,b,c,d,e]) (A I 2)).run prog w=.ok c w:=by kernel_rfl
theorem akA (a b c d e:aw)(w:au):(Instr.index 228 (.agg #[a,b,c,d,e]) (A I 3)).run prog w=.ok d w:=by kernel_rfl
theorem akz (a b c d e:aw)(w:au):(Instr.index 228 (.agg #[a,b,c,d,e]) (A I 4)).run prog w=.ok e w:=by kernel_rfl
theorem JO (h:gU w V)(s:Bt):
 aC prog 161 #[H s] w fun x w'=>x=aE (A I (dW s.data.toList:Nat))/\w'=w:=by
 obtain⟨S,T,f0,c0,k0,K,_⟩:=h.row 0 (by omega);obtain⟨W,X,f1,c1,k1,L,_⟩:=h.row 1 (by omega);obtain⟨a2,b2,f2,c2,k2,N,_⟩:=h.row 2 (by omega);obtain⟨a3,b3,f3,c3,k3,P,_⟩:=h.row 3 (by omega);obtain⟨a4,b4,f4,c4,k4,Q,_⟩:=h.row 4 (by omega);have n0:=LD S T f0 _ c0 (lY 0) s w rfl (by decide) K;have b:=LD W X f1 _ c1 (lY 1) s w rfl (by decide) L;have c:=LD a2 b2 f2 _ c2 (lY 2) s w rfl (by decide) N;have d:=LD a3 b3 f3 _ c3 (lY 3) s w rfl (by decide) P;have e:=LD a4 b4 f4 _ c4 (lY 4) s w rfl (by decide) Q;have v:=aju s;have hg:=h.gw;obtain⟨r,R⟩:=nm (dW s.data.toList);rw[<-R] at v⊢;obtain⟨t0,z⟩:=nm (Act.has (lY 0) s);obtain⟨t1,B⟩:=nm (Act.has (lY 1) s);obtain⟨t2,C⟩:=nm (Act.has (lY 2) s);obtain⟨t3,E⟩:=nm (Act.has (lY 3) s);obtain⟨t4,F⟩:=nm (Act.has (lY 4) s);rw[<-z,<-B,<-C,<-E,<-F] at v;rw[<-z] at n0;rw[<-B] at b;rw[<-C] at c;rw[<-E] at d;rw[<-F] at e;have t:=am v;clear R z B C E F v h K L N P Q;go_enter func161,ntmps161;go_wp2
 go_loop [6] (fun i=>∃k:Nat,k<=5/\i=A I k/\Hid ((0<k->t0=ak)/\(1<k->t1=ak)/\(2<k->t2=ak)/\(3<k->t3=ak)/\(4<k->t4=ak))) (fun i=>5 - (intOf i).toNat)
 case atStart=>exact⟨0,by omega,rfl,by refine⟨?_,?_,?_,?_,?_⟩<;>intro h<;>omega⟩
 case round=>
  obtain⟨k,hk,rfl,a⟩:=hrel
  match k,hk with
  | 0,_=>
   have hx:=akD;cases hq:t0 with
   | true=>
    rw[hq] at n0;have f:Hid (r=1):=(by show _=_;rw[t.out];simp[hq]);clear b c d e a hq;go_wp2_with fail;refine n0.mono ?_;rintro x w' ⟨rfl,rfl⟩;go_wp2;go_ret;exact⟨by rw[f.out];rfl,rfl⟩
   | false=>
    rw[hq] at n0;have g:Hid ((0<1->t0=ak)/\(1<1->t1=ak)/\(2<1->t2=ak)/\(3<1->t3=ak)/\(4<1->t4=ak)):=by
     refine⟨?_,?_,?_,?_,?_⟩<;>intro y<;>first | omega | assumption
    clear b c d e a hq;go_wp2_with fail;refine n0.mono ?_;rintro x w' ⟨rfl,rfl⟩;go_wp2
    go_round
    case rel=>exact⟨1,by omega,by go_num,by obtain⟨j,l,m,n,o⟩:=g.out;exact⟨fun h=>by first | trivial | exact j h,fun h=>by first | trivial | exact l h,fun h=>by first | trivial | exact m h,fun h=>by first | trivial | exact n h,fun h=>by first | trivial | exact o h⟩⟩
    case measure=>simp[intOf]
  | 1,_=>
   have p:=a.1 (by omega);have hx:=akC;cases hq:t1 with
   | true=>
    rw[hq] at b;have f:Hid (r=2):=(by show _=_;rw[t.out];simp[p,hq]);clear n0 c d e a hq;go_wp2_with fail;refine b.mono ?_;rintro x w' ⟨rfl,rfl⟩;go_wp2;go_ret;exact⟨by rw[f.out];rfl,rfl⟩
   | false=>
    rw[hq] at b;have g:Hid ((0<2->t0=ak)/\(1<2->t1=ak)/\(2<2->t2=ak)/\(3<2->t3=ak)/\(4<2->t4=ak)):=by
     refine⟨?_,?_,?_,?_,?_⟩<;>intro y<;>first | omega | assumption
    clear n0 c d e a hq;go_wp2_with fail;refine b.mono ?_;rintro x w' ⟨rfl,rfl⟩;go_wp2
    go_round
    case rel=>exact⟨2,by omega,by go_num,by obtain⟨j,l,m,n,o⟩:=g.out;exact⟨fun h=>by first | trivial | exact j h,fun h=>by first | trivial | exact l h,fun h=>by first | trivial | exact m h,fun h=>by first | trivial | exact n h,fun h=>by first | trivial | exact o h⟩⟩
    case measure=>simp[intOf]
  | 2,_=>
   have p:=a.1 (by omega);have q:=a.2.1 (by omega);have hx:=akB;cases hq:t2 with
   | true=>
    rw[hq] at c;have f:Hid (r=3):=(by show _=_;rw[t.out];simp[p,q,hq]);clear n0 b d e a hq;go_wp2_with fail;refine c.mono ?_;rintro x w' ⟨rfl,rfl⟩;go_wp2;go_ret;exact⟨by rw[f.out];rfl,rfl⟩
   | false=>
    rw[hq] at c;have g:Hid ((0<3->t0=ak)/\(1<3->t1=ak)/\(2<3->t2=ak)/\(3<3->t3=ak)/\(4<3->t4=ak)):=by
     refine⟨?_,?_,?_,?_,?_⟩<;>intro y<;>first | omega | assumption
    clear n0 b d e a hq;go_wp2_with fail;refine c.mono ?_;rintro x w' ⟨rfl,rfl⟩;go_wp2
    go_round
    case rel=>exact⟨3,by omega,by go_num,by obtain⟨j,l,m,n,o⟩:=g.out;exact⟨fun h=>by first | trivial | exact j h,fun h=>by first | trivial | exact l h,fun h=>by first | trivial | exact m h,fun h=>by first | trivial | exact n h,fun h=>by first | trivial | exact o h⟩⟩
    case measure=>simp[intOf]
  | 3,_=>
   have p:=a.1 (by omega);have q:=a.2.1 (by omega);have u:=a.2.2.1 (by omega);have hx:=akA;cases hq:t3 with
   | true=>
    rw[hq] at d;have f:Hid (r=4):=(by show _=_;rw[t.out];simp[p,q,u,hq]);clear n0 b c e a hq;go_wp2_with fail;refine d.mono ?_;rintro x w' ⟨rfl,rfl⟩;go_wp2;go_ret;exact⟨by rw[f.out];rfl,rfl⟩
   | false=>
    rw[hq] at d;have g:Hid ((0<4->t0=ak)/\(1<4->t1=ak)/\(2<4->t2=ak)/\(3<4->t3=ak)/\(4<4->t4=ak)):=by
     refine⟨?_,?_,?_,?_,?_⟩<;>intro y<;>first | omega | assumption
    clear n0 b c e a hq;go_wp2_with fail;refine d.mono ?_;rintro x w' ⟨rfl,rfl⟩;go_wp2
    go_round
    case rel=>exact⟨4,by omega,by go_num,by obtain⟨j,l,m,n,o⟩:=g.out;exact⟨fun h=>by first | trivial | exact j h,fun h=>by first | trivial | exact l h,fun h=>by first | trivial | exact m h,fun h=>by first | trivial | exact n h,fun h=>by first | trivial | exact o h⟩⟩
    case measure=>simp[intOf]
  | 4,_=>
   have p:=a.1 (by omega);have q:=a.2.1 (by omega);have u:=a.2.2.1 (by omega);have G:=a.2.2.2.1 (by omega);have hx:=akz;cases hq:t4 with
   | true=>
    rw[hq] at e;have f:Hid (r=5):=(by show _=_;rw[t.out];simp[p,q,u,G,hq]);clear n0 b c d a hq;go_wp2_with fail;refine e.mono ?_;rintro x w' ⟨rfl,rfl⟩;go_wp2;go_ret;exact⟨by rw[f.out];rfl,rfl⟩
   | false=>
    rw[hq] at e;have g:Hid ((0<5->t0=ak)/\(1<5->t1=ak)/\(2<5->t2=ak)/\(3<5->t3=ak)/\(4<5->t4=ak)):=by
     refine⟨?_,?_,?_,?_,?_⟩<;>intro y<;>first | omega | assumption
    clear n0 b c d a hq;go_wp2_with fail;refine e.mono ?_;rintro x w' ⟨rfl,rfl⟩;go_wp2
    go_round
    case rel=>exact⟨5,by omega,by go_num,by obtain⟨j,l,m,n,o⟩:=g.out;exact⟨fun h=>by first | trivial | exact j h,fun h=>by first | trivial | exact l h,fun h=>by first | trivial | exact m h,fun h=>by first | trivial | exact n h,fun h=>by first | trivial | exact o h⟩⟩
    case measure=>simp[intOf]
  | 5,_=>
   have p:=a.1 (by omega);have q:=a.2.1 (by omega);have u:=a.2.2.1 (by omega);have G:=a.2.2.2.1 (by omega);have q4:=a.2.2.2.2 (by omega);have f:Hid (r=0):=(by show _=_;rw[t.out];simp[p,q,u,G,q4]);clear n0 b c d e a;go_wp2;go_ret;exact⟨by rw[f.out];rfl,rfl⟩
open ag (Tok Po Tr nx bI aO ba)
def tF (t:Tok):Lv:=[A I t.1,A I (t.2.1:Int),H (ba t.2.2)]
def Good (t:Tok):Prop:=t.2.2.length<=4000/\t.2.1<=4000/\(t.1=2->t.2.2.length<=18/\Lib.atoi t.2.2=Z (ag.wY t.2.2))
structure Rd (w:au)(rb e:Nat)(bl pr:Int)(ts:List Tok)(v:aw):Prop where
 bE:w.heap[rb]? =Z (M #[v,A I (e:Int),A I bl,A I pr] 78)
 row:gj w (fun b=>b<rb) 3 v (ts.map tF)
 len:ts.length<=600
 Lk:∀t∈ts,Good t
 lv:gU w rb
def rA (c:Int)(q:Nat):aw:=.iface 75 (.agg #[A I c,A I (q:Int)])
def At (c:Int)(q:Nat):Ending:=.panicked [{v:=rA c q,recovered:=ak}]
theorem ox {x a:aw}{e:TypeId}(h:w.heap[b]? =Z (M #[x,y,a] e)):
 (w.cell? (Y b 0 U)=Z x/\w.cell? (Y b 1 U)=Z y/\w.cell? (Y b 2 U)=Z a)/\w.frozen? (Y b 0 U)=ak/\w.frozen? (Y b 1 U)=ak/\w.frozen? (Y b 2 U)=ak:=by
 refine⟨⟨?_,?_,?_⟩,?_,?_,?_⟩<;>simp[aN,World.frozen?,h]
theorem Rd.cells {ts:List Tok}(h:Rd w rb e bl W ts v):
 w.cell? (Y rb 0 U)=Z v/\w.cell? (Y rb 1 U)=Z (A I (e:Int))/\w.cell? (Y rb 2 U)=Z (A I bl)/\w.cell? (Y rb 3 U)=Z (A I W):=by
 have:=h.bE;refine⟨?_,?_,?_,?_⟩<;>simp[aN,this]
theorem Rd.frozen {ts:List Tok}(h:Rd w rb e bl W ts v)(k:Nat):w.frozen? (Y rb k U)=ak:=by
 simp[World.frozen?,h.bE]
theorem Rd.lt {ts:List Tok}(h:Rd w rb e bl W ts v):rb<w.heap.size:=J h.bE
theorem Rd.keeps {ts:List Tok}(h:Rd w rb e bl W ts v)(k:Below B w w')(a:rb<B):Rd w' rb e bl W ts v:=
 ⟨(k.block _ a).trans h.bE,h.row.keeps ⟨k.size,fun b c _=>k.block b (by omega)⟩,h.len,h.Lk,h.lv.keeps k.size fun b c=>k.block b (by omega)⟩
theorem Rd.none (h:Rd w rb e bl W [] v):∃a c,v=O a 0 c:=by
 obtain⟨a,b,off,c,d,_⟩:=h.row;exact⟨a,c,d⟩
theorem Rd.some {t:Tok}{r:List Tok}(h:Rd w rb e bl W (t::r) v):
 ∃b off c,v=O (.some ⟨b,off,.none⟩) (r.length+1) c/\b<rb/\r.length+1<=c/\c<=maxLen/\w.cell? ⟨b,off,.none⟩=.some (A I t.1)/\w.cell? ⟨b,off+1,.none⟩=.some (A I (t.2.1:Int))/\w.cell? ⟨b,off+2,.none⟩=.some (H (ba t.2.2))/\
  gj w (fun b=>b<rb) 3 (O (.some ⟨b,off+3,.none⟩) r.length (c - 1)) (r.map tF):=by
 obtain⟨p,b,off,c,k,a⟩:=h.row;have d:0<((t::r).map tF).length:=(by simp);have l:=a.dR d;subst l;have f:=a.cell 0 d;refine⟨b,off,c,by simpa using k,a.ok d,by simpa using a.cap,a.mx,?_,?_,?_,?_⟩
 ·have:=f 0 (A I t.1) rfl;simpa using this
 ·have:=f 1 (A I (t.2.1:Int)) rfl;simpa using this
 ·have:=f 2 (H (ba t.2.2)) rfl;simpa using this
 ·have m:=a.cap;refine⟨_,b,off+3,c - 1,by rw[List.length_map],⟨by simp,?_,by have:=a.mx;omega,fun _=>rfl,fun _=>a.ok d,fun _=>a.pl d,fun i g=> ?_,fun i g j n o=> ?_⟩⟩
  ·simp at m⊢;omega
  ·simp[tF]
  ·have:=a.cell (i+1) (by simpa using g) j n (by simpa using o);rw[<-this];congr 2;omega
theorem Rd.OU {t:Tok}{r:List Tok}(h:Rd w rb e bl W (t::r) v):Good t:=h.Lk t (by simp)
theorem Rd.step {t:Tok}{r:List Tok}{a:aw}(h:Rd w rb e bl W (t::r) v)(c:gj w (fun b=>b<rb) 3 a (r.map tF)):Rd (w.setCell ⟨rb,0,.none⟩ a) rb e bl W r a:=by
 refine⟨?_,c.keeps ⟨by simp[bw],fun b d _=> ?_⟩,by have:=h.len;simp at this;omega,fun x hx=>h.Lk x (by simp[hx]),h.lv.keeps (by simp[bw]) fun b d=>dL _ _ _ _ (by show b≠rb;omega)⟩
 ·simp[bw,dM,h.bE]
 ·exact dL _ _ _ _ (by show b≠rb;omega)
theorem EB {ts:List Tok}(h:Rd w rb e bl W ts v):
 aC prog 71 #[aB (Z (Y rb 0 U))] w fun x w'=>x=aE (A I (bI e ts:Nat))/\w'=w:=by
 have g:=h.lt;cases ts with
 | nil=>
  obtain⟨i,c,rfl⟩:=h.none;obtain⟨c0,a,d,f⟩:=h.cells;clear h;go_enter func71,ntmps71;go_wp2;go_ret;exact⟨rfl,rfl⟩
 | cons t r=>
  obtain⟨b,off,c,rfl,j,k,hm,l,m,n,_⟩:=h.some;obtain⟨c0,a,d,f⟩:=h.cells;have o:=h.len;have p:b<w.heap.size:=(by omega);unfold maxLen at hm;clear h;go_enter func71,ntmps71;go_wp2;go_ret;exact⟨rfl,rfl⟩
theorem yr {ts:List Tok}(h:Rd w rb e bl W ts v):
 aC prog 31 #[aB (Z (Y rb 0 U))] w fun x w'=>x=aE (.agg #[A I (nx ts).1,A I ((nx ts).2.1:Int),H (ba (nx ts).2.2)])/\Bl w w':=by
 have g:=h.lt;cases ts with
 | nil=>
  obtain⟨i,c,rfl⟩:=h.none;obtain⟨c0,a,d,f⟩:=h.cells;clear h;go_enter func31,ntmps31;go_wp2;exact bodyPost_ret (v:=.agg #[A I 0,A I 0,H ⟨#[]⟩]) (by simp[results,results31,go_sem]) rfl ⟨rfl,(aF _ _).alloc (aD _) _⟩
 | cons t r=>
  obtain⟨b,off,c,rfl,j,k,hm,l,m,n,_⟩:=h.some;obtain⟨c0,a,d,f⟩:=h.cells;have o:=h.len;have p:b<w.heap.size:=(by omega);unfold maxLen at hm;clear h;go_enter func31,ntmps31;go_wp2;exact bodyPost_ret (v:=.agg #[A I t.1,A I (t.2.1:Int),H (ba t.2.2)]) (by simp[results,results31,go_sem]) rfl ⟨rfl,(aF _ _).alloc (aD _) _⟩
open ag (Tok nx bI aO gg ba)
def pw (v:aw)(k e:Nat)(c p bl al:Int):Av:=#[v,A I (k:Int),A I (e:Int),A I c,A I p,A I bl,A I al]
structure Tx (w:au)(tb e:Nat)(ts:List Tok)(v:aw)(k:Nat)(c p bl al:Int):Prop where
 bE:w.heap[tb]? =Z (M (pw v k e c p bl al) 102)
 le:k<=ts.length
 jZ:ts.length<=100000
 kO:e<=1000000000000
 row:∃lo b off cap,v=O lo ts.length cap/\(0<ts.length->lo=Z (Y b off U)/\b≠tb/\b<w.heap.size)/\∀i (h:i<ts.length),w.cell? (Y b (off+i*3) U)=Z (A I ts[i].1)/\w.cell? (Y b (off+i*3+1) U)=Z (A I (ts[i].2.1:Int))/\w.cell? (Y b (off+i*3+2) U)=Z (H (ba ts[i].2.2))
theorem Tx.lt {ts:List Tok}{k:Nat}{p:Int}(h:Tx w X e ts v k c p bl al):X<w.heap.size:=J h.bE
theorem Tx.kept {d:Nat}{ts:List Tok}{k k':Nat}{p c' p' j l:Int}(h:Tx w X e ts v k c p bl al)(m:w.grownBy w' (Z X))(q:w'.heap[X]? =Z (M (pw v k' d c' p' j l) 102))(r:k'<=ts.length)(s:d<=1000000000000):Tx w' X d ts v k' c' p' j l:=by
 obtain⟨t,b,off,u,x,n,y⟩:=h.row;refine⟨q,r,h.jZ,s,t,b,off,u,x,fun z=> ?_,fun i B=> ?_⟩
 ·obtain⟨C,o,f⟩:=n z;exact⟨C,o,gD f m.size⟩
 ·obtain⟨_,o,f⟩:=n (by omega);have g:=m.block b f (by simp;omega);obtain⟨c0,E,F⟩:=y i B;exact⟨(en (a:=(Y b (off+i*3) U)) g).trans c0,(en (a:=(Y b (off+i*3+1) U)) g).trans E,(en (a:=(Y b (off+i*3+2) U)) g).trans F⟩
theorem FC {row:Option Nat}(h:Bl w w'):w.grownBy w' row:=⟨h.os,h.tape,h.output,h.size,fun j a _=>h.block j a⟩
theorem Tx.later {ts:List Tok}{k:Nat}{p:Int}(h:Tx w X e ts v k c p bl al)(a:Bl w w'):Tx w' X e ts v k c p bl al:=h.kept (FC a) ((a.block _ h.lt).trans h.bE) h.le h.kO
theorem Tx.cells {ts:List Tok}{k:Nat}{p:Int}(h:Tx w X e ts v k c p bl al):w.cell? (Y X 0 U)=Z v/\w.cell? (Y X 1 U)=Z (A I (k:Int))/\w.cell? (Y X 2 U)=Z (A I (e:Int))/\w.cell? (Y X 3 U)=Z (A I c)/\w.cell? (Y X 4 U)=Z (A I p)/\w.cell? (Y X 5 U)=Z (A I bl)/\w.cell? (Y X 6 U)=Z (A I al):=by
 have a:=h.bE;refine⟨?_,?_,?_,?_,?_,?_,?_⟩<;>simp[aN,a,pw]
theorem Tx.free {ts:List Tok}{k:Nat}{p:Int}(h:Tx w X e ts v k c p bl al)(i:Nat):w.frozen? (Y X i U)=ak:=by simp[World.frozen?,h.bE]
theorem G4 {ts:List Tok}{k:Nat}(h:k<ts.length):nx (ts.drop k)=ts[k]:=by rw[List.drop_eq_getElem_cons h];rfl
theorem A9 {ts:List Tok}{k:Nat}(h:ts.length<=k):nx (ts.drop k)=(0,0,[]):=by rw[List.drop_of_length_le h];rfl
theorem TZ {ts:List Tok}{k:Nat}(h:k<ts.length):bI e (ts.drop k)=ts[k].2.1:=by rw[List.drop_eq_getElem_cons h];rfl
theorem acl {ts:List Tok}{k:Nat}(h:ts.length<=k):bI e (ts.drop k)=e:=by rw[List.drop_of_length_le h];rfl
def AY (t:Tok):aw:=.agg #[A I t.1,A I (t.2.1:Int),H (ba t.2.2)]
theorem Qz (w:au)(q:Nat)(b c d:aw):let W:=((((w.alloc (M #[A I 0,A I 0,H ⟨#[]⟩] 81)).drewN q).setCell (Y w.heap.size 0 U) b).setCell (Y w.heap.size 1 U) c).setCell (Y w.heap.size 2 U) d
 W.heap[w.heap.size]? =Z (M #[b,c,d] 81)/\Bl w W:=by
 have e:((w.alloc (M #[A I 0,A I 0,H ⟨#[]⟩] 81)).drewN q).heap[w.heap.size]? =Z (M #[A I 0,A I 0,H ⟨#[]⟩] 81):=cu _ _ _ rfl;refine⟨?_,?_⟩
 ·simp only[bw,dM,e];rfl
 ·have a:=(aF w.heap.size w).alloc (aD _) (M #[A I 0,A I 0,H ⟨#[]⟩] 81);have f:Bl w ((w.alloc (M #[A I 0,A I 0,H ⟨#[]⟩] 81)).drewN q):=⟨a.os,a.tape,a.output,a.size,a.block⟩;exact((f.setCell (aD _) _).setCell (aD _) _).setCell (aD _) _
theorem peekD {ts:List Tok}{k:Nat}{p:Int}(h:Tx w X e ts v k c p bl al):
 aC prog 103 #[aB (Z (Y X 0 U))] w fun x w'=>x=aE (AY (nx (ts.drop k)))/\Bl w w':=by
 obtain⟨F,G,_⟩:=h.cells;have K:=h.lt;obtain⟨L,b,off,N,s,g,i⟩:=h.row;obtain⟨n,hn⟩:=nm ts.length;have hf:=h.jZ;rw[<-hn] at s g hf;subst s;have P:=am hn;by_cases Q:k<n
 ·have d:k<ts.length:=(by omega);obtain⟨C,_,R⟩:=g (by omega);obtain⟨c0,u,j⟩:=i k d;rw[G4 d];obtain⟨t,y⟩:=nm (ts[k]);rw[<-y] at c0 u j⊢;obtain⟨t0,t1,t2⟩:=t;simp only at c0 u j;unfold AY;simp only;obtain⟨l,z⟩:=nm (ba t2);rw[<-z] at j⊢;subst C;clear h g i hn y d z;go_enter func103,ntmps103;go_wp2
  go_quiet (fail)
  go_wp2;go_region;all_goals go_wp2
  obtain⟨a,f⟩:=Qz w (nq+1) (A I t0) (A I (t1:Int)) (H l);obtain⟨E,m⟩:=nm (((((w.alloc (M #[A I 0,A I 0,H ⟨#[]⟩] 81)).drewN (nq+1)).setCell (Y w.heap.size 0 U) (A I t0)).setCell (Y w.heap.size 1 U) (A I (t1:Int))).setCell (Y w.heap.size 2 U) (H l));rw[<-m] at a f⊢;have o:=cl a 0 rfl;have q:=cl a 1 rfl;have r:=cl a 2 rfl;exact bodyPost_ret (v:=.agg #[A I t0,A I (t1:Int),H l]) (by simp[results,results103,go_sem,o,q,r]) rfl ⟨rfl,f⟩
 ·have d:ts.length<=k:=(by omega);rw[A9 d];unfold AY;simp only;have B:ba []=⟨#[]⟩:=rfl;rw[B];have S:decide ((k:Int)<(n:Int))=ak:=(by simp;omega);clear h g i hn d B;go_enter func103,ntmps103;go_wp2
  go_quiet (fail)
  go_wp2;obtain⟨a,f⟩:=Qz w nq (A I 0) (A I 0) (H ⟨#[]⟩);obtain⟨E,m⟩:=nm (((((w.alloc (M #[A I 0,A I 0,H ⟨#[]⟩] 81)).drewN nq).setCell (Y w.heap.size 0 U) (A I 0)).setCell (Y w.heap.size 1 U) (A I 0)).setCell (Y w.heap.size 2 U) (H ⟨#[]⟩));rw[<-m] at a f⊢;have o:=cl a 0 rfl;have q:=cl a 1 rfl;have r:=cl a 2 rfl;exact bodyPost_ret (v:=.agg #[A I 0,A I 0,H ⟨#[]⟩]) (by simp[results,results103,go_sem,o,q,r]) rfl ⟨rfl,f⟩
theorem aci (l:Lu):(ba l).toList=l:=by simp[ba,ByteArray.toList_eq]
theorem rC {ts:List Tok}{k:Nat}{p:Int}(s:Lu)(h:Tx w X e ts v k c p bl al):
 aC prog 49 #[aB (Z (Y X 0 U)),H (ba s)] w fun x w'=>x=aE (.bool (gg s (ts.drop k)))/\Bl w w':=by
 have a:=peekD h;obtain⟨t,b⟩:=nm (nx (ts.drop k));have i:Hid (gg s (ts.drop k)=(t.2.2==s && (t.1==3 || t.1==4))):=(by show _=_;rw[b];rfl);rw[<-b] at a;obtain⟨t0,t1,t2⟩:=t;unfold AY at a;simp only at a i;rw[i.out];have d:((ba t2).toList==(ba s).toList)=(t2==s):=(by rw[aci,aci]);obtain⟨q,j⟩:=nm (t2==s);rw[<-j] at d⊢;obtain⟨y,l⟩:=nm (ba s);obtain⟨z,m⟩:=nm (ba t2);rw[<-l] at d⊢;rw[<-m] at d a;obtain⟨r,f⟩:=nm (t0==3);obtain⟨u,g⟩:=nm (t0==4);rw[<-f,<-g];have B:=f.symm;have C:=g.symm;clear h b j l m f g;go_enter func49,ntmps49;go_wp2_with fail;refine a.mono ?_;rintro x E ⟨rfl,n⟩;have o:=am n;clear n a;cases q<;>cases r<;>cases u
 all_goals go_wp2
 all_goals go_ret
 all_goals exact⟨rfl,o.alloc o.size _⟩
end Go.Proofs.YtoiiahpdbcokaaaGreatDoor
