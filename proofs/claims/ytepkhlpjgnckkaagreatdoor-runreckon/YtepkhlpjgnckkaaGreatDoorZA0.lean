/- Short words for what comes again and again. And more of the same. -/
import Derived.Test.YtepkhlpjgnckkaaGreatDoorProg
import Derived.Below
import Derived.WalkKit
import Derived.Lib.Strings
import Derived.Lib.IndexBytes
import Derived.WideShapes
import Derived.Lib.Atoi
import Derived.OwnWalk
import Derived.Maps.AppendAt
import Derived.Deep.QuietTactic
namespace Go.Proofs.YtepkhlpjgnckkaaGreatDoor
set_option maxRecDepth 100000
set_option maxHeartbeats 8000000
open Go.RowKit
theorem hidq {p:Prop}(h:p):Hid p:=h
theorem nm {α:Type}(x:α):∃y,y=x:=⟨x,rfl⟩
theorem mkF:∀(fn:Fn) (first cap:Array Value) (w:World),(Instr.makeFunc fn first cap).run Tryz.prog w=.ok (.func fn first cap) w:=fun _ _ _ _=>rfl
namespace Lex
def blankB (c:Int):Bool:=c==32 || c==9 || c==10
def lineB (c:Int):Bool:=c !=10
def digitB (c:Int):Bool:=decide (48≤c∧c≤57)
def alphaB (c:Int):Bool:=decide ((97≤c∧c≤122)∨(65≤c∧c≤90)∨c=95)
def nameB (c:Int):Bool:=alphaB c || digitB c
def runLen (p:Int→Bool):List UInt8→Nat
 |[]=>0
 | c::r=>if p (c.toNat:Int) then runLen p r+1 else 0
theorem runLen_le (p:Int→Bool)(l:List UInt8):runLen p l≤l.length:=by
 induction l with
 | nil=>simp[runLen]
 | cons c r ih=>simp only[runLen,List.length_cons];split<;>omega
theorem runLen_drop (p:Int→Bool)(l:List UInt8)(k:Nat)(h:k<l.length):
 runLen p (l.drop k)=if p ((l[k].toNat:Nat):Int) then runLen p (l.drop (k+1))+1 else 0:=by
 rw[List.drop_eq_getElem_cons h];rfl
theorem runLen_end (p:Int→Bool)(l:List UInt8)(k:Nat)(h:l.length≤k):runLen p (l.drop k)=0:=by
 rw[List.drop_of_length_le h];rfl
theorem run_start (p:Int→Bool)(s:ByteArray):RowKit.Hid (runLen p s.data.toList=0+runLen p (s.data.toList.drop 0)):=by
 show _=_;simp
theorem run_yes (p:Int→Bool)(s:ByteArray)(k:Nat)(h:k<s.size)(hp:p ((s[k].toNat:Nat):Int)=true)(H:RowKit.Hid (runLen p s.data.toList=k+runLen p (s.data.toList.drop k))):
 RowKit.Hid (runLen p s.data.toList=(k+1)+runLen p (s.data.toList.drop (k+1))):=by
 have hl:k<s.data.toList.length:=by simpa using h
 have hc:=runLen_drop p s.data.toList k hl
 have e0:s.data.toList[k]'hl=s[k]:=rfl
 rw[e0,hp,if_pos rfl] at hc
 have:=H.out;show _=_;omega
theorem run_no (p:Int→Bool)(s:ByteArray)(k:Nat)(h:k<s.size)(hp:p ((s[k].toNat:Nat):Int)=false)(H:RowKit.Hid (runLen p s.data.toList=k+runLen p (s.data.toList.drop k))):
 RowKit.Hid (runLen p s.data.toList=k):=by
 have hl:k<s.data.toList.length:=by simpa using h
 have hc:=runLen_drop p s.data.toList k hl
 have e0:s.data.toList[k]'hl=s[k]:=rfl
 rw[e0,hp,if_neg (by simp)] at hc
 have:=H.out;show _=_;omega
theorem run_stop (p:Int→Bool)(s:ByteArray)(k:Nat)(h:s.size≤k)(H:RowKit.Hid (runLen p s.data.toList=k+runLen p (s.data.toList.drop k))):
 RowKit.Hid (runLen p s.data.toList=k):=by
 have hc:=runLen_end p s.data.toList k (by simpa using h)
 have:=H.out;show _=_;omega
def wordB (l:List UInt8):Bool:=l==[99,104,105,101,102] || l==[97,99,116,115] || l==[105,110] || l==[111,117,116] || l==[112,114,111,99] || l==[98,101,103,105,110] || l==[102,111,114] || l==[118,97,114] || l==[105,102] || l==[101,108,115,101] || l==[119,104,105,108,101] || l==[115,101,110,100] || l==[116,97,107,101] || l==[100,111] || l==[114,101,116,117,114,110] || l==[114,101,108,101,97,115,101] || l==[116,111] || l==[105,110,116] || l==[98,111,111,108] || l==[116,114,117,101] || l==[102,97,108,115,101]
theorem word_yes {l v:List UInt8}(h:(l==v)=true)(hv:wordB v=true):wordB l=true:=by rw[eq_of_beq h];exact hv
def lettersF (l:List UInt8):Int×List UInt8×Int:=if 12<l.length then(0,[],2) else if wordB l then(3,l,0) else(1,l,0)
def digitsF (l:List UInt8):Int×List UInt8×Int:=if 9<l.length∨(1<l.length∧l.head? =some 48) then(0,[],3) else(2,l,0)
def twoB (l:List UInt8):Bool:=l==[38,38] || l==[124,124] || l==[61,61] || l==[33,61] || l==[60,61] || l==[62,61]
def oneB (c:Int):Bool:=c==43 || c==45 || c==42 || c==47 || c==37 || c==60 || c==62 || c==33 || c==40 || c==41 || c==123 || c==125 || c==44 || c==59 || c==58 || c==61
def c0 (l:List UInt8):Int:=((l.headD 0).toNat:Int)
def signF (l:List UInt8):List UInt8:=if twoB (l.take 2) then l.take 2 else if oneB (c0 l) then l.take 1 else[]
def firstF (l:List UInt8):Int×List UInt8×Int:=
 if alphaB (c0 l) then lettersF (l.take (runLen nameB l)) else if digitB (c0 l) then digitsF (l.take (runLen digitB l)) else if(signF l).isEmpty then(0,[],1) else(4,signF l,0)
def gapF:Bool→List UInt8→Nat
 | _,[]=>0
 | true,c::r=>if lineB (c.toNat:Int) then gapF true r+1 else gapF false r+1
 | false,c::r=>if blankB (c.toNat:Int) then gapF false r+1 else if((c.toNat:Int)==35) then gapF true r+1 else 0
theorem gap_note (l:List UInt8):gapF true l=runLen lineB l+gapF false (l.drop (runLen lineB l)):=by
 induction l with
 | nil=>rfl
 | cons c r ih=>
  simp only[gapF,runLen]
  cases h:lineB (c.toNat:Int)
  ·have hb:blankB (c.toNat:Int)=true:=by simp[lineB] at h;simp[blankB,h]
   simp[gapF,hb]
  ·simp[ih];omega
theorem gap_le (b:Bool)(l:List UInt8):gapF b l≤l.length:=by
 induction l generalizing b with
 | nil=>cases b<;>simp[gapF]
 | cons c r ih=>
  have h1:=ih true;have h2:=ih false
  cases b<;>simp only[gapF,List.length_cons]<;>(repeat' split)<;>omega
theorem gap_blank (l:List UInt8)(k:Nat)(h:k<l.length)(hb:blankB ((l[k].toNat:Nat):Int)=true):gapF false (l.drop k)=gapF false (l.drop (k+1))+1:=by
 rw[List.drop_eq_getElem_cons h];simp only[gapF,hb,if_true]
theorem gap_hash (l:List UInt8)(k:Nat)(h:k<l.length)(hb:blankB ((l[k].toNat:Nat):Int)=false)(hc:(((l[k].toNat:Nat):Int)==35)=true):
 gapF false (l.drop k)=runLen lineB (l.drop k)+gapF false (l.drop (k+runLen lineB (l.drop k))):=by
 rw[←List.drop_drop,List.drop_eq_getElem_cons h]
 have hl:lineB ((l[k].toNat:Nat):Int)=true:=by rw[eq_of_beq hc];rfl
 simp only[gapF,hb,hc,if_true,runLen,hl,gap_note (l.drop (k+1)),List.drop_succ_cons]
 simp
 omega
theorem gap_stop (l:List UInt8)(k:Nat)(h:k<l.length)(hb:blankB ((l[k].toNat:Nat):Int)=false)(hc:(((l[k].toNat:Nat):Int)==35)=false):gapF false (l.drop k)=0:=by
 rw[List.drop_eq_getElem_cons h];simp[gapF,hb,hc]
theorem gap_end (l:List UInt8)(k:Nat)(h:l.length≤k):gapF false (l.drop k)=0:=by
 rw[List.drop_of_length_le h];rfl
end Lex
section
namespace Lex
open Go
theorem txt_eq (s:ByteArray)(l:List UInt8)(h:s.data.toList=l):s=⟨l.toArray⟩:=by
 subst h;rfl
theorem ext_eq (s:ByteArray)(a b:Nat):s.extract a b=⟨((s.data.toList.drop a).take (b - a)).toArray⟩:=txt_eq _ _ (Lib.extract_data s a b)
theorem head_eq (s:ByteArray)(b:Nat):s.extract 0 b=⟨(s.data.toList.take b).toArray⟩:=by rw[ext_eq];simp
theorem tail_list (s:ByteArray)(a:Nat):(s.extract a s.size).data.toList=s.data.toList.drop a:=Lib.extract_to_end s a
theorem list_of (s:ByteArray):s.toList=s.data.toList:=ByteArray.toList_eq s
theorem len_of (s:ByteArray):s.data.toList.length=s.size:=by simp
theorem get_of (s:ByteArray)(k:Nat)(h:k<s.size):s.data.toList=s.data.toList.take k++s[k]::s.data.toList.drop (k+1):=by
 have hl:k<s.data.toList.length:=by simpa using h
 rw[show s[k]=s.data.toList[k] from rfl,←List.drop_eq_getElem_cons hl,List.take_append_drop]
theorem cons_of (s:ByteArray)(h:0<s.size):s.data.toList=s[0]::s.data.toList.drop 1:=by simpa using get_of s 0 h
theorem one_yes {c v:Int}(h:(c==v)=true)(hv:oneB v=true):oneB c=true:=by rw[eq_of_beq h];exact hv
theorem two_yes {l v:List UInt8}(h:(l==v)=true)(hv:twoB v=true):twoB l=true:=by rw[eq_of_beq h];exact hv
theorem two_no {l:List UInt8}(h0:(l==[38,38])=false)(h1:(l==[124,124])=false)(h2:(l==[61,61])=false)(h3:(l==[33,61])=false)(h4:(l==[60,61])=false)(h5:(l==[62,61])=false):twoB l=false:=by simp only[twoB,h0,h1,h2,h3,h4,h5,Bool.or_self]
theorem one_no {c:Int}(h0:(c==43)=false)(h1:(c==45)=false)(h2:(c==42)=false)(h3:(c==47)=false)(h4:(c==37)=false)(h5:(c==60)=false)(h6:(c==62)=false)(h7:(c==33)=false)(h8:(c==40)=false)(h9:(c==41)=false)(h10:(c==123)=false)(h11:(c==125)=false)(h12:(c==44)=false)(h13:(c==59)=false)(h14:(c==58)=false)(h15:(c==61)=false):oneB c=false:=by simp only[oneB,h0,h1,h2,h3,h4,h5,h6,h7,h8,h9,h10,h11,h12,h13,h14,h15,Bool.or_self]
theorem no_two {b:Bool}(h:b=true)(k:b=false):False:=by rw[h] at k;cases k
theorem take2 (s:ByteArray):(s.extract 0 2).toList=s.data.toList.take 2:=by rw[list_of,Lib.extract_data];simp
theorem two_short (s:ByteArray)(h:¬1<s.size):twoB (s.extract 0 2).toList=false:=by
 rw[take2]
 have hl:s.data.toList.length≤1:=by rw[len_of];omega
 match s.data.toList,hl with
 |[],_=>rfl
 |[a],_=>simp[twoB]
theorem c0_of (s:ByteArray)(h:0<s.size):c0 s.data.toList=((s[0].toNat:Nat):Int):=by
 rw[cons_of s h];rfl
theorem sign_two {s:ByteArray}(h:twoB (s.extract 0 2).toList=true):Ending.returned (.string (s.extract 0 2))=.returned (.string ⟨(signF s.data.toList).toArray⟩):=by
 rw[take2] at h
 rw[head_eq];unfold signF;rw[if_pos h]
theorem sign_one {s:ByteArray}(h0:0<s.size)(h2:twoB (s.extract 0 2).toList=false)(h:oneB ((s[0].toNat:Nat):Int)=true):Ending.returned (.string (s.extract 0 1))=.returned (.string ⟨(signF s.data.toList).toArray⟩):=by
 rw[take2] at h2
 rw[head_eq];unfold signF;rw[if_neg (by simp[h2]),c0_of s h0,if_pos h]
theorem sign_no {s:ByteArray}(h0:0<s.size)(h2:twoB (s.extract 0 2).toList=false)(h:oneB ((s[0].toNat:Nat):Int)=false):Ending.returned (.string ⟨#[]⟩)=.returned (.string ⟨(signF s.data.toList).toArray⟩):=by
 rw[take2] at h2
 unfold signF;rw[if_neg (by simp[h2]),c0_of s h0,if_neg (by simp[h])]
end Lex
end
section
namespace Lex
open Go
def Tri (r:Int×List UInt8×Int):Ending:=.returned (.tuple #[.int .i64 r.1,.string ⟨r.2.1.toArray⟩,.int .i64 r.2.2])
theorem tri_no {r:Int×List UInt8×Int}{c:Int}(h:r=(0,[],c)):Ending.returned (.tuple #[.int .i64 0,.string ⟨#[]⟩,.int .i64 c])=Tri r:=by rw[h];rfl
theorem tri_yes {r:Int×List UInt8×Int}{s:ByteArray}{k:Int}(h:r=(k,s.data.toList,0)):Ending.returned (.tuple #[.int .i64 k,.string s,.int .i64 0])=Tri r:=by rw[h];rfl
theorem letters_many {s:ByteArray}(h:12<s.size):lettersF s.data.toList=(0,[],2):=by unfold lettersF;rw[if_pos (by rw[len_of];exact h)]
theorem letters_word {s:ByteArray}(h:¬12<s.size)(hw:wordB s.toList=true):lettersF s.data.toList=(3,s.data.toList,0):=by
 rw[list_of] at hw;unfold lettersF;rw[if_neg (by rw[len_of];exact h),if_pos hw]
theorem letters_name {s:ByteArray}(h:¬12<s.size)(hw:wordB s.toList=false):lettersF s.data.toList=(1,s.data.toList,0):=by
 rw[list_of] at hw;unfold lettersF;rw[if_neg (by rw[len_of];exact h),if_neg (by simp[hw])]
theorem head_of (s:ByteArray)(h:0<s.size):s.data.toList.head? =some s[0]:=by rw[cons_of s h];rfl
theorem digits_many {s:ByteArray}(h:9<s.size):digitsF s.data.toList=(0,[],3):=by unfold digitsF;rw[if_pos (.inl (by rw[len_of];exact h))]
theorem digits_nought {s:ByteArray}(h:1<s.size)(hc:(((s[0].toNat:Nat):Int)==48)=true):digitsF s.data.toList=(0,[],3):=by
 unfold digitsF
 have h48:s[0]=48:=UInt8.toNat_inj.1 (by have:=eq_of_beq hc;simp;omega)
 rw[if_pos (.inr ⟨by rw[len_of];exact h,by rw[head_of s (by omega),h48]⟩)]
theorem digits_other {s:ByteArray}(h9:¬9<s.size)(h:1<s.size)(hc:(((s[0].toNat:Nat):Int)==48)=false):digitsF s.data.toList=(2,s.data.toList,0):=by
 unfold digitsF
 rw[if_neg]
 rw[len_of,head_of s (by omega)]
 rintro(h' |⟨_,h'⟩)
 ·exact h9 h'
 ·simp at h';simp[h'] at hc
theorem digits_one {s:ByteArray}(h:¬1<s.size):digitsF s.data.toList=(2,s.data.toList,0):=by
 unfold digitsF
 rw[if_neg]
 rw[len_of]
 rintro(h' |⟨h',_⟩)<;>omega
theorem first_alpha {l:List UInt8}(h:alphaB (c0 l)=true):firstF l=lettersF (l.take (runLen nameB l)):=by unfold firstF;rw[if_pos h]
theorem first_digit {l:List UInt8}(h:alphaB (c0 l)=false)(hd:digitB (c0 l)=true):firstF l=digitsF (l.take (runLen digitB l)):=by unfold firstF;rw[if_neg (by simp[h]),if_pos hd]
theorem first_none {l:List UInt8}(h:alphaB (c0 l)=false)(hd:digitB (c0 l)=false)(hs:signF l=[]):firstF l=(0,[],1):=by
 unfold firstF;rw[if_neg (by simp[h]),if_neg (by simp[hd]),hs];rfl
theorem first_sign {l:List UInt8}(h:alphaB (c0 l)=false)(hd:digitB (c0 l)=false)(hs:¬signF l=[]):firstF l=(4,signF l,0):=by
 unfold firstF;rw[if_neg (by simp[h]),if_neg (by simp[hd]),if_neg (by simpa using hs)]
theorem run_pos (p:Int→Bool)(s:ByteArray)(h:0<s.size)(hp:p ((s[0].toNat:Nat):Int)=true):0<runLen p s.data.toList:=by
 rw[cons_of s h];simp[runLen,hp]
end Lex
end
section
namespace Lex
open Go
theorem run_pos' (p:Int→Bool)(l:List UInt8)(h:p (c0 l)=true)(h0:l≠[]):0<runLen p l:=by
 match l,h0 with
 | c::r,_=>simp only[c0,List.headD_cons] at h;simp[runLen,h]
theorem take_self {l:List UInt8}{n:Nat}(h:n≤l.length):l.take n=l.take (l.take n).length:=by
 rw[List.length_take,Nat.min_eq_left h]
theorem letters_ok {l t:List UInt8}{k:Int}(h:lettersF l=(k,t,0)):k≠0∧t=l:=by
 unfold lettersF at h
 split at h
 ·simp at h
 ·split at h<;>· simp only[Prod.mk.injEq] at h;exact⟨by omega,h.2.1.symm⟩
theorem digits_ok {l t:List UInt8}{k:Int}(h:digitsF l=(k,t,0)):k≠0∧t=l:=by
 unfold digitsF at h
 split at h
 ·simp at h
 ·simp only[Prod.mk.injEq] at h;exact⟨by omega,h.2.1.symm⟩
theorem two_len {l:List UInt8}(h:twoB (l.take 2)=true):2≤l.length:=by
 match l with
 |[]=>simp[twoB] at h
 |[a]=>simp[twoB] at h
 | a::b::r=>simp
theorem one_len {l:List UInt8}(h:oneB (c0 l)=true):1≤l.length:=by
 match l with
 |[]=>exact absurd h (by decide)
 | a::r=>simp
theorem sign_ok (l:List UInt8):signF l=l.take (signF l).length:=by
 unfold signF
 split
 ·rename_i h;exact take_self (two_len h)
 ·split
  ·rename_i h;exact take_self (one_len h)
  ·simp
theorem first_ok {l t:List UInt8}{k:Int}(h:firstF l=(k,t,0))(h0:l≠[]):k≠0∧0<t.length∧t=l.take t.length∧t.length≤l.length:=by
 have key:k≠0∧0<t.length∧t=l.take t.length:=by
  unfold firstF at h
  split at h
  ·rename_i ha
   obtain⟨hk,ht⟩:=letters_ok h
   have hp:=run_pos' nameB l (by simp[nameB,ha]) h0
   have hl:=runLen_le nameB l
   refine⟨hk,by rw[ht,List.length_take];omega,?_⟩
   rw[ht];exact take_self hl
  ·split at h
   ·rename_i ha hd
    obtain⟨hk,ht⟩:=digits_ok h
    have hp:=run_pos' digitB l hd h0
    have hl:=runLen_le digitB l
    refine⟨hk,by rw[ht,List.length_take];omega,?_⟩
    rw[ht];exact take_self hl
   ·split at h
    ·simp at h
    ·rename_i ha hd he
     simp only[Prod.mk.injEq] at h
     obtain⟨hk,ht,_⟩:=h
     subst ht
     refine⟨by omega,?_,sign_ok l⟩
     cases hh:signF l with
     | nil=>simp[hh] at he
     | cons a r=>simp
 refine⟨key.1,key.2.1,key.2.2,?_⟩
 have h3:=congrArg List.length key.2.2
 rw[List.length_take] at h3
 omega
def stepF (l:List UInt8)(p:Nat):Int×Nat×List UInt8×Int×Nat:=
 if p+gapF false (l.drop p)=l.length then(0,l.length,[],0,l.length) else
  if(firstF (l.drop (p+gapF false (l.drop p)))).2.2=0 then((firstF (l.drop (p+gapF false (l.drop p)))).1,p+gapF false (l.drop p),(firstF (l.drop (p+gapF false (l.drop p)))).2.1,0,p+gapF false (l.drop p)+(firstF (l.drop (p+gapF false (l.drop p)))).2.1.length)
  else(0,p+gapF false (l.drop p),[],(firstF (l.drop (p+gapF false (l.drop p)))).2.2,p+gapF false (l.drop p))
theorem step_end {l:List UInt8}{p q:Nat}(hq:p+gapF false (l.drop p)=q)(h:q=l.length):stepF l p=(0,q,[],0,q):=by
 subst hq;unfold stepF;rw[if_pos h,h]
theorem step_tok {l t:List UInt8}{p q:Nat}{k:Int}(hq:p+gapF false (l.drop p)=q)(h:q≠l.length)(hf:firstF (l.drop q)=(k,t,0)):stepF l p=(k,q,t,0,q+t.length):=by
 subst hq;unfold stepF;rw[if_neg h,hf];simp
theorem step_bad {l t:List UInt8}{p q:Nat}{k c:Int}(hq:p+gapF false (l.drop p)=q)(h:q≠l.length)(hf:firstF (l.drop q)=(k,t,c))(hc:c≠0):stepF l p=(0,q,[],c,q):=by
 subst hq;unfold stepF;rw[if_neg h,hf];simp[hc]
theorem gap_end_le (l:List UInt8)(p:Nat)(h:p≤l.length):p+gapF false (l.drop p)≤l.length:=by
 have:=gap_le false (l.drop p);rw[List.length_drop] at this;omega
end Lex
end
section
namespace Lex
open Go
abbrev Tok:=Int×Nat×List UInt8
def scanF (l:List UInt8):Nat→Nat→List Tok→List Tok×Int×Nat
 | 0,_,_=>([],0,0)
 | f+1,p,acc=>
  if(stepF l p).2.2.2.1=0 then
   if(stepF l p).1=0 then(acc,0,0)
   else if acc.length=600 then([],2,(stepF l p).2.1)
   else scanF l f (stepF l p).2.2.2.2 (acc++[((stepF l p).1,(stepF l p).2.1,(stepF l p).2.2.1)])
  else([],(stepF l p).2.2.2.1,(stepF l p).2.1)
def scanAll (l:List UInt8):List Tok×Int×Nat:=if 4000<l.length then([],2,0) else scanF l (l.length+1) 0 []
theorem scan_many {l:List UInt8}(h:4000<l.length):scanAll l=([],2,0):=by unfold scanAll;rw[if_pos h]
theorem scan_begin {l:List UInt8}(h:¬4000<l.length):scanAll l=scanF l (l.length+1) 0 []:=by unfold scanAll;rw[if_neg h]
theorem scan_end {l t:List UInt8}{f p q n:Nat}{acc:List Tok}(h:stepF l p=(0,q,t,0,n)):scanF l (f+1) p acc=(acc,0,0):=by
 simp[scanF,h]
theorem scan_bad {l t:List UInt8}{f p q n:Nat}{k c:Int}{acc:List Tok}(h:stepF l p=(k,q,t,c,n))(hc:c≠0):scanF l (f+1) p acc=([],c,q):=by
 simp[scanF,h,hc]
theorem scan_full {l t:List UInt8}{f p q n:Nat}{k:Int}{acc:List Tok}(h:stepF l p=(k,q,t,0,n))(hk:k≠0)(ha:acc.length=600):scanF l (f+1) p acc=([],2,q):=by
 simp[scanF,h,hk,ha]
theorem scan_on {l t:List UInt8}{f p q n:Nat}{k:Int}{acc:List Tok}(h:stepF l p=(k,q,t,0,n))(hk:k≠0)(ha:¬acc.length=600):scanF l (f+1) p acc=scanF l f n (acc++[(k,q,t)]):=by
 simp[scanF,h,hk,ha]
def cellsOf (l:List Tok):List Value:=l.flatMap fun t=>[.int .i64 t.1,.int .i64 (t.2.1:Int),.string ⟨t.2.2.toArray⟩]
theorem cellsOf_snoc (l:List Tok)(t:Tok):cellsOf (l++[t])=cellsOf l++[.int .i64 t.1,.int .i64 (t.2.1:Int),.string ⟨t.2.2.toArray⟩]:=by simp[cellsOf]
def placeOf (w:World)(b:Nat):Nat:=match w.cell? ⟨b,0,none⟩ with | some (.int _ n)=>n.toNat | _=>0
theorem placeOf_of {w:World}{b p t:Nat}(h:w.heap[b]? =some (.cells #[.int .i64 (p:Int)] t (0,0))):placeOf w b=p:=by
 simp[placeOf,World.cell?,h]
end Lex
end
namespace Par
abbrev Tok:=Lex.Tok
abbrev Po:=ByteArray×List ByteArray
inductive Tr where
 | mk (k p n t:Int) (s:ByteArray) (l:List Po) (a:List Tr)
inductive Res (α:Type) where
 | ok (a:α) (r:List Tok)
 | no (c:Int) (q:Nat)
def Res.bind {α β:Type}:Res α→(α→List Tok→Res β)→Res β
 | .ok a r,f=>f a r
 | .no c q,_=>.no c q
theorem bind_ok {α β:Type}{x:Res α}{f:α→List Tok→Res β}{b:β}{r:List Tok}(h:x.bind f=.ok b r):∃a s,x=.ok a s∧f a s=.ok b r:=by
 cases x with
 | ok a s=>exact⟨a,s,rfl,h⟩
 | no c q=>cases h
def nx:List Tok→Tok
 |[]=>(0,0,[])
 | t::_=>t
def atP (e:Nat):List Tok→Nat
 |[]=>e
 | t::_=>t.2.1
def isT (s:List UInt8)(ts:List Tok):Bool:=(nx ts).2.2==s
def ba (l:List UInt8):ByteArray:=⟨l.toArray⟩
def must (e:Nat)(s:List UInt8)(ts:List Tok):Res Nat:=if isT s ts=true then .ok (nx ts).2.1 ts.tail else .no 1 (atP e ts)
def nameR (e:Nat)(ts:List Tok):Res ByteArray:=if(nx ts).1=1 then .ok (ba (nx ts).2.2) ts.tail else .no 1 (atP e ts)
def listF {α:Type}(e:Nat)(s:List UInt8)(P:List Tok→Res α):Nat→List α→List Tok→Res (List α)
 | 0,acc,ts=>if isT s ts=true then .no 2 (atP e ts) else .ok acc ts
 | m+1,acc,ts=>if isT s ts=true then(P ts.tail).bind fun a r=>listF e s P m (acc++[a]) r else .ok acc ts
def listR {α:Type}(e:Nat)(s:List UInt8)(m:Nat)(P:List Tok→Res α)(ts:List Tok):Res (List α):=
 (P ts).bind fun a r=>listF e s P (m - 1) [a] r
def encl {α:Type}(e:Nat)(o s c:List UInt8)(m:Nat)(P:List Tok→Res α)(ts:List Tok):Res (List α):=
 (must e o ts).bind fun _ r=>(if isT c r=true then Res.ok [] r else listR e s m P r).bind fun l r2=>(must e c r2).bind fun _ r3=>.ok l r3
def policyR (e:Nat)(ts:List Tok):Res Po:=
 (nameR e ts).bind fun o r=>(must e [58] r).bind fun _ r2=>if(nx r2).1=1 then(listR e [44] 6 (nameR e) r2).bind fun l r3=>.ok (o,l) r3 else .ok (o,[]) r2
def labelR (e:Nat)(ts:List Tok):Res (List Po):=encl e [123] [59] [125] 200 (policyR e) ts
def levF (s:List UInt8):Nat:=
 if s∈[[124,124]] then 1 else if s∈[[38,38]] then 2 else if s∈[[61,61],[33,61],[60],[60,61],[62],[62,61]] then 3 else if s∈[[43],[45]] then 4 else if s∈[[42],[47],[37]] then 5 else 0
theorem lev_none:levF []=0:=by decide
def opT (t:Tok)(a:List Tr):Tr:=.mk 3 t.2.1 0 0 (ba t.2.2) [] a
def loopF (Q:List Tok→Res Tr)(lv:Nat):Nat→Tr→List Tok→Res Tr
 | 0,x,ts=>.ok x ts
 | f+1,x,ts=>if levF (nx ts).2.2=lv then(Q ts.tail).bind fun y r=>loopF Q lv f (opT (nx ts) [x,y]) r else .ok x ts
def bd (P:List Tok→Res Tr):Nat→List Tok→Res Tr
 | 0,ts=>P ts
 | j+1,ts=>(bd P j ts).bind fun x r=>loopF (bd P j) (5 - j) r.length x r
def numV (l:List UInt8):Int:=(Lib.atoi l).getD 0
def namedR (e:Nat)(E:List Tok→Res Tr)(ts:List Tok):Res Tr:=
 if isT [40] ts.tail=true then(encl e [40] [44] [41] 4 E ts.tail).bind fun a r=>.ok (.mk 4 (nx ts).2.1 0 0 (ba (nx ts).2.2) [] a) r
 else .ok (.mk 2 (nx ts).2.1 0 0 (ba (nx ts).2.2) [] []) ts.tail
def relR (e:Nat)(E:List Tok→Res Tr)(ts:List Tok):Res Tr:=
 (must e [40] ts.tail).bind fun _ r1=>(E r1).bind fun x r2=>(must e [116,111] r2).bind fun _ r3=>(labelR e r3).bind fun l r4=>(must e [41] r4).bind fun _ r5=>.ok (.mk 5 (nx ts).2.1 0 0 (ba []) l [x]) r5
def innR (e:Nat)(E:List Tok→Res Tr)(ts:List Tok):Res Tr:=
 (must e [40] ts).bind fun _ r1=>(E r1).bind fun x r2=>(must e [41] r2).bind fun _ r3=>.ok x r3
def primF (e:Nat)(E P:List Tok→Res Tr)(ts:List Tok):Res Tr:=
 if(nx ts).1=2 then .ok (.mk 1 (nx ts).2.1 (numV (nx ts).2.2) 1 (ba []) [] []) ts.tail
 else if(nx ts).1=1 then namedR e E ts
 else if(nx ts).2.2=[114,101,108,101,97,115,101] then relR e E ts
 else if(nx ts).2.2=[45]∨(nx ts).2.2=[33] then(P ts.tail).bind fun x r=>.ok (opT (nx ts) [x]) r
 else if(nx ts).2.2=[116,114,117,101] then .ok (.mk 1 (nx ts).2.1 1 2 (ba []) [] []) ts.tail
 else if(nx ts).2.2=[102,97,108,115,101] then .ok (.mk 1 (nx ts).2.1 0 2 (ba []) [] []) ts.tail
 else innR e E ts
def prim (e:Nat):Nat→List Tok→Res Tr
 | 0,ts=>.no 2 (atP e ts)
 | k+1,ts=>primF e (bd (prim e k) 5) (prim e k) ts
def exprR (e k:Nat):List Tok→Res Tr:=bd (prim e k) 5
def Sfx {α:Type}(P:List Tok→Res α):Prop:=∀ts a r,P ts=.ok a r→r<:+ts
theorem tail_sfx (ts:List Tok):ts.tail<:+ts:=List.tail_suffix ts
theorem must_sfx (e:Nat)(s:List UInt8):Sfx (must e s):=by
 intro ts a r h
 unfold must at h
 split at h
 ·cases h;exact tail_sfx ts
 ·cases h
theorem name_sfx (e:Nat):Sfx (nameR e):=by
 intro ts a r h
 unfold nameR at h
 split at h
 ·cases h;exact tail_sfx ts
 ·cases h
theorem listF_sfx {α:Type}{e:Nat}{s:List UInt8}{P:List Tok→Res α}(hP:Sfx P):∀m acc,Sfx (listF e s P m acc):=by
 intro m
 induction m with
 | zero=>
  intro acc ts a r h
  unfold listF at h
  split at h
  ·cases h
  ·cases h;exact List.suffix_refl _
 | succ m ih=>
  intro acc ts a r h
  unfold listF at h
  split at h
  ·obtain⟨b,u,h1,h2⟩:=bind_ok h
   exact((ih _ _ _ _ h2).trans (hP _ _ _ h1)).trans (tail_sfx ts)
  ·cases h;exact List.suffix_refl _
theorem listR_sfx {α:Type}{e:Nat}{s:List UInt8}{m:Nat}{P:List Tok→Res α}(hP:Sfx P):Sfx (listR e s m P):=by
 intro ts a r h
 obtain⟨b,u,h1,h2⟩:=bind_ok h
 exact(listF_sfx hP _ _ _ _ _ h2).trans (hP _ _ _ h1)
theorem encl_sfx {α:Type}{e:Nat}{o s c:List UInt8}{m:Nat}{P:List Tok→Res α}(hP:Sfx P):Sfx (encl e o s c m P):=by
 intro ts a r h
 obtain⟨b,u,h1,h2⟩:=bind_ok h
 obtain⟨l,v,h3,h4⟩:=bind_ok h2
 obtain⟨l2,v2,h5,h6⟩:=bind_ok h4
 cases h6
 refine((must_sfx _ _ _ _ _ h5).trans ?_).trans (must_sfx _ _ _ _ _ h1)
 split at h3
 ·cases h3;exact List.suffix_refl _
 ·exact listR_sfx hP _ _ _ h3
theorem policy_sfx (e:Nat):Sfx (policyR e):=by
 intro ts a r h
 obtain⟨b,u,h1,h2⟩:=bind_ok h
 obtain⟨l,v,h3,h4⟩:=bind_ok h2
 refine List.IsSuffix.trans ?_ ((must_sfx _ _ _ _ _ h3).trans (name_sfx _ _ _ _ h1))
 split at h4
 ·obtain⟨l2,v2,h5,h6⟩:=bind_ok h4
  cases h6
  exact listR_sfx (name_sfx e) _ _ _ h5
 ·cases h4;exact List.suffix_refl _
theorem label_sfx (e:Nat):Sfx (labelR e):=fun ts a r h=>encl_sfx (policy_sfx e) ts a r h
theorem loopF_sfx {Q:List Tok→Res Tr}{lv:Nat}(hQ:Sfx Q):∀f x,Sfx (loopF Q lv f x):=by
 intro f
 induction f with
 | zero=>intro x ts a r h;cases h;exact List.suffix_refl _
 | succ f ih=>
  intro x ts a r h
  unfold loopF at h
  split at h
  ·obtain⟨b,u,h1,h2⟩:=bind_ok h
   exact((ih _ _ _ _ h2).trans (hQ _ _ _ h1)).trans (tail_sfx ts)
  ·cases h;exact List.suffix_refl _
theorem bd_sfx {P:List Tok→Res Tr}(hP:Sfx P):∀j,Sfx (bd P j):=by
 intro j
 induction j with
 | zero=>exact hP
 | succ j ih=>
  intro ts a r h
  obtain⟨b,u,h1,h2⟩:=bind_ok h
  exact(loopF_sfx ih _ _ _ _ _ h2).trans (ih _ _ _ h1)
theorem named_sfx {e:Nat}{E:List Tok→Res Tr}(hE:Sfx E):Sfx (namedR e E):=by
 intro ts a r h
 unfold namedR at h
 split at h
 ·obtain⟨b,u,h1,h2⟩:=bind_ok h
  cases h2
  exact(encl_sfx hE _ _ _ h1).trans (tail_sfx ts)
 ·cases h;exact tail_sfx ts
theorem inn_sfx {e:Nat}{E:List Tok→Res Tr}(hE:Sfx E):Sfx (innR e E):=by
 intro ts a r h
 obtain⟨b,u,h1,h2⟩:=bind_ok h
 obtain⟨l,v,h3,h4⟩:=bind_ok h2
 obtain⟨l2,v2,h5,h6⟩:=bind_ok h4
 cases h6
 exact((must_sfx _ _ _ _ _ h5).trans (hE _ _ _ h3)).trans (must_sfx _ _ _ _ _ h1)
theorem rel_sfx {e:Nat}{E:List Tok→Res Tr}(hE:Sfx E):Sfx (relR e E):=by
 intro ts a r h
 obtain⟨_,r1,h1,h⟩:=bind_ok h
 obtain⟨_,r2,h2,h⟩:=bind_ok h
 obtain⟨_,r3,h3,h⟩:=bind_ok h
 obtain⟨_,r4,h4,h⟩:=bind_ok h
 obtain⟨_,r5,h5,h⟩:=bind_ok h
 cases h
 exact((((must_sfx _ _ _ _ _ h5).trans (label_sfx _ _ _ _ h4)).trans (must_sfx _ _ _ _ _ h3)).trans (hE _ _ _ h2)).trans ((must_sfx _ _ _ _ _ h1).trans (tail_sfx ts))
theorem primF_sfx {e:Nat}{E P:List Tok→Res Tr}(hE:Sfx E)(hP:Sfx P):Sfx (primF e E P):=by
 intro ts a r h
 unfold primF at h
 split at h
 ·cases h;exact tail_sfx ts
 split at h
 ·exact named_sfx hE _ _ _ h
 split at h
 ·exact rel_sfx hE _ _ _ h
 split at h
 ·obtain⟨b,u,h1,h2⟩:=bind_ok h
  cases h2
  exact(hP _ _ _ h1).trans (tail_sfx ts)
 split at h
 ·cases h;exact tail_sfx ts
 split at h
 ·cases h;exact tail_sfx ts
 exact inn_sfx hE _ _ _ h
theorem prim_sfx (e:Nat):∀k,Sfx (prim e k):=by
 intro k
 induction k with
 | zero=>intro ts a r h;cases h
 | succ k ih=>exact primF_sfx (bd_sfx ih 5) ih
theorem expr_sfx (e k:Nat):Sfx (exprR e k):=bd_sfx (prim_sfx e k) 5
theorem loopF_fuel {Q:List Tok→Res Tr}{lv:Nat}(hQ:Sfx Q)(hl:0<lv):∀f g x ts,ts.length≤f→ts.length≤g→loopF Q lv f x ts=loopF Q lv g x ts:=by
 have none:∀g x,loopF Q lv g x []=.ok x []:=by
  intro g x
  cases g with
  | zero=>rfl
  | succ g=>unfold loopF;rw[if_neg];show ¬levF []=lv;rw[lev_none];omega
 intro f
 induction f with
 | zero=>
  intro g x ts h1 h2
  have:ts=[]:=List.length_eq_zero_iff.1 (by omega)
  subst this;rw[none,none]
 | succ f ih=>
  intro g x ts h1 h2
  cases g with
  | zero=>
   have:ts=[]:=List.length_eq_zero_iff.1 (by omega)
   subst this;rw[none,none]
  | succ g=>
   unfold loopF
   split
   ·cases hq:Q ts.tail with
    | no c q=>rfl
    | ok y r=>
     have h3:=(hQ _ _ _ hq).length_le
     rw[List.length_tail] at h3
     show loopF Q lv f _ r=loopF Q lv g _ r
     exact ih g _ _ (by omega) (by omega)
   ·rfl
end Par
open Par (Tok Po Tr)
structure Keeps (S:Nat→Prop)(w w':World):Prop where
 size:w.heap.size≤w'.heap.size
 block:∀b,S b→b<w.heap.size→w'.heap[b]? =w.heap[b]?
theorem Keeps.refl (S:Nat→Prop)(w:World):Keeps S w w:=⟨Nat.le_refl _,fun _ _ _=>rfl⟩
theorem Keeps.trans {S:Nat→Prop}{a b c:World}(h:Keeps S a b)(k:Keeps S b c):Keeps S a c:=
 ⟨Nat.le_trans h.size k.size,fun i hi hl=>(k.block i hi (Nat.lt_of_lt_of_le hl h.size)).trans (h.block i hi hl)⟩
theorem Keeps.of_below {S:Nat→Prop}{w w':World}(h:Below w.heap.size w w'):Keeps S w w':=⟨h.size,fun b _ hl=>h.block b hl⟩
theorem Keeps.of_grown {S:Nat→Prop}{w w':World}{row:Option Nat}(h:w.grownBy w' row)(hr:∀b,S b→some b≠row):Keeps S w w':=⟨h.size,fun b hs hl=>h.block b hl (hr b hs)⟩
theorem Keeps.cell {S:Nat→Prop}{w w':World}(h:Keeps S w w'){p:Addr}(hs:S p.block)(hl:p.block<w.heap.size):w'.cell? p=w.cell? p:=World.cell?_of_block (h.block _ hs hl)
structure RowAt (w:World)(S:Nat→Prop)(sz:Nat)(ao:Option Addr)(b off n c:Nat)(css:List (List Value)):Prop where
 ln:n=css.length
 cap:n≤c
 mx:c≤maxLen
 adr:0<css.length→ao=some ⟨b,off,none⟩
 ok:0<css.length→S b
 pl:0<css.length→∃cs e,w.heap[b]? =some (.cells cs e (0,0))
 szs:∀i (h:i<css.length),css[i].length=sz
 cell:∀i (h:i<css.length) j u,css[i][j]? =some u→w.cell? ⟨b,off+i*sz+j,none⟩=some u
def RowV (w:World)(S:Nat→Prop)(sz:Nat)(v:Value)(css:List (List Value)):Prop:=∃ao b off c,v=.slice ao css.length c∧RowAt w S sz ao b off css.length c css
theorem RowAt.lt {w:World}{S:Nat→Prop}{sz:Nat}{ao:Option Addr}{b off n c:Nat}{css:List (List Value)}(h:RowAt w S sz ao b off n c css)(hp:0<css.length):b<w.heap.size:=by
 obtain⟨cs,e,hb⟩:=h.pl hp
 exact lt_of_block hb
theorem RowAt.keeps {w w':World}{S:Nat→Prop}{sz:Nat}{ao:Option Addr}{b off n c:Nat}{css:List (List Value)}(h:RowAt w S sz ao b off n c css)(k:Keeps S w w'):RowAt w' S sz ao b off n c css:=
 ⟨h.ln,h.cap,h.mx,h.adr,h.ok,fun hp=>by obtain⟨cs,e,hb⟩:=h.pl hp;exact⟨cs,e,(k.block _ (h.ok hp) (lt_of_block hb)).trans hb⟩,h.szs,fun i hi j u hu=>(k.cell (p:=⟨b,_,none⟩) (h.ok (by omega)) (h.lt (by omega))).trans (h.cell i hi j u hu)⟩
theorem RowV.keeps {w w':World}{S:Nat→Prop}{sz:Nat}{v:Value}{css:List (List Value)}(h:RowV w S sz v css)(k:Keeps S w w'):RowV w' S sz v css:=by
 obtain⟨ao,b,off,c,hv,hr⟩:=h
 exact⟨ao,b,off,c,hv,hr.keeps k⟩
theorem RowV.mono {w:World}{S S':Nat→Prop}{sz:Nat}{v:Value}{css:List (List Value)}(h:RowV w S sz v css)(k:∀b,S b→b<w.heap.size→S' b):RowV w S' sz v css:=by
 obtain⟨ao,b,off,c,hv,hr⟩:=h
 exact⟨ao,b,off,c,hv,⟨hr.ln,hr.cap,hr.mx,hr.adr,fun hp=>k _ (hr.ok hp) (hr.lt hp),hr.pl,hr.szs,hr.cell⟩⟩
theorem RowV.det {w:World}{S S':Nat→Prop}{sz:Nat}{v:Value}{xs ys:List (List Value)}(h:RowV w S sz v xs)(k:RowV w S' sz v ys):xs=ys:=by
 obtain⟨ao,b,off,c,hv,hr⟩:=h
 obtain⟨ao',b',off',c',hv',hr'⟩:=k
 rw[hv] at hv'
 simp only[Value.slice.injEq] at hv'
 obtain⟨h1,h2,h3⟩:=hv'
 refine List.ext_getElem h2 fun i hi hi'=> ?_
 have e1:=hr.adr (by omega)
 have e2:=hr'.adr (by omega)
 rw[←h1,e1] at e2
 simp only[Option.some.injEq,Addr.mk.injEq,and_true] at e2
 obtain⟨e3,e4⟩:=e2
 refine List.ext_getElem ((hr.szs i hi).trans (hr'.szs i hi').symm) fun j hj hj'=> ?_
 have c1:=hr.cell i hi j _ (List.getElem?_eq_getElem hj)
 have c2:=hr'.cell i hi' j _ (List.getElem?_eq_getElem hj')
 rw[e3,e4] at c1
 exact Option.some.inj (c1.symm.trans c2)
theorem flat_len {css:List (List Value)}{sz:Nat}(h:∀i (h:i<css.length),css[i].length=sz):css.flatten.length=css.length*sz:=by
 induction css with
 | nil=>simp
 | cons a r ih=>
  have h0:a.length=sz:=h 0 (by simp)
  have:=ih (fun i hi=>h (i+1) (by simpa using hi))
  simp only[List.flatten_cons,List.length_append,List.length_cons,this,h0]
  rw[Nat.succ_mul];omega
theorem flat_at {css:List (List Value)}{sz:Nat}(h:∀i (h:i<css.length),css[i].length=sz):∀i (hi:i<css.length) j,j<sz→css.flatten[i*sz+j]? =css[i][j]? :=by
 induction css with
 | nil=>intro i hi;simp at hi
 | cons a r ih=>
  intro i hi j hj
  have h0:a.length=sz:=h 0 (by simp)
  match i with
  | 0=>
   simp only[List.flatten_cons,Nat.zero_mul,Nat.zero_add]
   rw[List.getElem?_append_left (by omega)];rfl
  | i+1=>
   have:=ih (fun i hi=>h (i+1) (by simpa using hi)) i (by simpa using hi) j hj
   simp only[List.flatten_cons]
   rw[List.getElem?_append_right (by rw[Nat.succ_mul];omega)]
   rw[←show(i+1)*sz+j - a.length=i*sz+j by rw[Nat.succ_mul];omega] at this
   simpa using this
theorem RowV.of_own {w:World}{B e sz n:Nat}{v:Value}{css:List (List Value)}{S:Nat→Prop}(h:w.ownsRow B e sz v n css.flatten)(hn:n=css.length)(hs:∀i (h:i<css.length),css[i].length=sz)(hS:∀b,B≤b→S b):RowV w S sz v css:=by
 subst hn
 rcases h.2 with⟨hv,h0⟩|⟨g,cap,cur,hv,hg,hh,hc1,hc2,hsz,htk⟩
 ·refine⟨none,0,0,0,by rw[hv,h0],⟨rfl,by omega,by simp[maxLen],fun hp=>by omega,fun hp=>by omega,fun hp=>by omega,hs,fun i hi=>by omega⟩⟩
 ·refine⟨some ⟨g,0,none⟩,g,0,cap,hv,⟨rfl,hc1,hc2,fun _=>rfl,fun _=>hS _ hg,fun _=>⟨_,_,hh⟩,hs,fun i hi j u hu=> ?_⟩⟩
  have hj:j<sz:=by
   have:=(List.getElem?_eq_some_iff.1 hu).1
   rwa [hs i hi] at this
  have hu2:=(flat_at hs i hi j hj).trans hu
  have hlt:i*sz+j<css.length*sz:=by
   have:(i+1)*sz≤css.length*sz:=Nat.mul_le_mul_right _ hi
   rw[Nat.succ_mul] at this;omega
  rw[←htk,List.getElem?_take,if_pos hlt] at hu2
  rw[Nat.zero_add]
  simp[World.cell?,hh]
  simpa using hu2
theorem RowV.new {w:World}{sz e n:Nat}{css:List (List Value)}{cs:Array Value}{S:Nat→Prop}(hn:n=css.length)(hm:n≤maxLen)(hc:cs=css.flatten.toArray)(hs:∀i (h:i<css.length),css[i].length=sz)(hS:S w.heap.size):
 RowV (w.alloc (.cells cs e)) S sz (.slice (some ⟨w.heap.size,0,none⟩) n n) css:=by
 subst hn hc
 refine⟨some ⟨w.heap.size,0,none⟩,w.heap.size,0,css.length,rfl,⟨rfl,Nat.le_refl _,hm,fun _=>rfl,fun _=>hS,fun _=>⟨_,_,heap_alloc_new w _⟩,hs,fun i hi j u hu=> ?_⟩⟩
 have hj:j<sz:=by
  have:=(List.getElem?_eq_some_iff.1 hu).1
  rwa [hs i hi] at this
 have hu2:=(flat_at hs i hi j hj).trans hu
 rw[Nat.zero_add,World.cell?_alloc_at _ _ _ _ rfl]
 simpa using hu2
theorem RowV.none (w:World)(S:Nat→Prop)(sz:Nat)(ao:Option Addr):RowV w S sz (.slice ao 0 0) []:=
 ⟨ao,0,0,0,rfl,⟨rfl,Nat.le_refl _,by simp[maxLen],fun h=>by simp at h,fun h=>by simp at h,fun h=>by simp at h,fun i hi=>by simp at hi,fun i hi=>by simp at hi⟩⟩
def strCs (l:List ByteArray):List (List Value):=l.map fun s=>[.string s]
structure StrsV (w:World)(S:Nat→Prop)(v:Value)(l:List ByteArray):Prop where
 row:RowV w S 1 v (strCs l)
 sz:∀s∈l,s.size≤maxLen
def polCs (l:List Po)(vs:List Value):List (List Value):=List.zipWith (fun p u=>[.string p.1,u]) l vs
structure LabV (w:World)(S:Nat→Prop)(v:Value)(l:List Po):Prop where
 ex:∃vs:List Value,vs.length=l.length∧RowV w S 2 v (polCs l vs)∧∀i (h:i<l.length) (h':i<vs.length),StrsV w S vs[i] l[i].2
 sz:∀p∈l,p.1.size≤maxLen
theorem StrsV.keeps {w w':World}{S:Nat→Prop}{v:Value}{l:List ByteArray}(h:StrsV w S v l)(k:Keeps S w w'):StrsV w' S v l:=⟨h.row.keeps k,h.sz⟩
theorem LabV.keeps {w w':World}{S:Nat→Prop}{v:Value}{l:List Po}(h:LabV w S v l)(k:Keeps S w w'):LabV w' S v l:=by
 obtain⟨⟨vs,h1,h2,h3⟩,h4⟩:=h
 exact⟨⟨vs,h1,h2.keeps k,fun i hi hi'=>(h3 i hi hi').keeps k⟩,h4⟩
theorem StrsV.mono {w:World}{S S':Nat→Prop}{v:Value}{l:List ByteArray}(h:StrsV w S v l)(k:∀b,S b→b<w.heap.size→S' b):StrsV w S' v l:=⟨h.row.mono k,h.sz⟩
theorem LabV.mono {w:World}{S S':Nat→Prop}{v:Value}{l:List Po}(h:LabV w S v l)(k:∀b,S b→b<w.heap.size→S' b):LabV w S' v l:=by
 obtain⟨⟨vs,h1,h2,h3⟩,h4⟩:=h
 exact⟨⟨vs,h1,h2.mono k,fun i hi hi'=>(h3 i hi hi').mono k⟩,h4⟩
theorem StrsV.det {w:World}{S S':Nat→Prop}{v:Value}{l m:List ByteArray}(h:StrsV w S v l)(k:StrsV w S' v m):l=m:=by
 have:=h.row.det k.row
 unfold strCs at this
 have hi:Function.Injective (fun s:ByteArray=>[Value.string s]):=by intro a b h;simpa using h
 exact(List.map_inj_right (fun a b h=>hi h)).1 this
theorem polCs_at {l:List Po}{vs:List Value}(h:vs.length=l.length):(polCs l vs).length=l.length∧∀i (hi:i<l.length) (h':i<vs.length) (h'':i<(polCs l vs).length),(polCs l vs)[i]=[.string l[i].1,vs[i]]:=by
 refine⟨by simp[polCs,h],fun i hi h' h''=>by simp[polCs]⟩
theorem LabV.det {w:World}{S S':Nat→Prop}{v:Value}{l m:List Po}(h:LabV w S v l)(k:LabV w S' v m):l=m:=by
 obtain⟨⟨vs,h1,h2,h3⟩,h4⟩:=h
 obtain⟨⟨us,k1,k2,k3⟩,k4⟩:=k
 have e:=h2.det k2
 obtain⟨a1,a2⟩:=polCs_at h1
 obtain⟨b1,b2⟩:=polCs_at k1
 have hl:l.length=m.length:=by rw[←a1,←b1,e]
 refine List.ext_getElem hl fun i hi hi'=> ?_
 have c1:=a2 i hi (by omega) (by omega)
 have c2:=b2 i hi' (by omega) (by omega)
 have c3:(polCs l vs)[i]'(by omega)=(polCs m us)[i]'(by omega):=by simp only[e]
 rw[c1,c2] at c3
 simp only[List.cons.injEq,Value.string.injEq,and_true] at c3
 have c4:=h3 i hi (by omega)
 rw[c3.2] at c4
 exact Prod.ext c3.1 (c4.det (k3 i hi' (by omega)))
inductive TrIs (w:World)(S:Nat→Prop):Tr→List Value→Prop
 | mk {k p n t:Int} {s:ByteArray} {l:List Po} {a:List Tr} {lv av:Value} {css:List (List Value)} (hs:s.size≤maxLen) (hl:LabV w S lv l) (hr:RowV w S 7 av css) (hc:css.length=a.length)
  (hk:∀i (h:i<a.length) (h':i<css.length),TrIs w S a[i] css[i]):TrIs w S (.mk k p n t s l a) [.int .i64 k,.int .i64 p,.int .i64 n,.int .i64 t,.string s,lv,av]
theorem TrIs.len {w:World}{S:Nat→Prop}{t:Tr}{cs:List Value}(h:TrIs w S t cs):cs.length=7:=by cases h;rfl
theorem TrIs.keeps {w w':World}{S:Nat→Prop}{t:Tr}{cs:List Value}(h:TrIs w S t cs)(k:Keeps S w w'):TrIs w' S t cs:=by
 induction h with
 | mk hs hl hr hc _ ih=>exact .mk hs (hl.keeps k) (hr.keeps k) hc ih
theorem TrIs.mono {w:World}{S S':Nat→Prop}{t:Tr}{cs:List Value}(h:TrIs w S t cs)(k:∀b,S b→b<w.heap.size→S' b):TrIs w S' t cs:=by
 induction h with
 | mk hs hl hr hc _ ih=>exact .mk hs (hl.mono k) (hr.mono k) hc ih
theorem TrIs.det {w:World}{S S':Nat→Prop}{t u:Tr}{cs:List Value}(h:TrIs w S t cs)(g:TrIs w S' u cs):t=u:=by
 induction h generalizing u with
 | mk hs hl hr hc _ ih=>
  cases g with
  | mk gs gl gr gc gk=>
   have e:=hl.det gl
   have f:=hr.det gr
   subst e f
   have:∀(a b:List Tr),a=b→∀{k p n t s l},Tr.mk k p n t s l a=Tr.mk k p n t s l b:=fun a b h=>by subst h;intros;rfl
   refine this _ _ (List.ext_getElem (hc.symm.trans gc) fun i hi hi'=> ?_)
   exact ih i hi (by omega) (gk i hi' (by omega))
theorem grown_refl (w:World)(row:Option Nat):w.grownBy w row:=⟨rfl,rfl,rfl,Nat.le_refl _,fun _ _ _=>rfl⟩
theorem grown_trans {a b c:World}{row:Option Nat}(h:a.grownBy b row)(k:b.grownBy c row):a.grownBy c row:=
 ⟨k.os.trans h.os,k.tape.trans h.tape,k.output.trans h.output,Nat.le_trans h.size k.size,fun i hi hn=>(k.block i (Nat.lt_of_lt_of_le hi h.size) hn).trans (h.block i hi hn)⟩
theorem grown_alloc {a w:World}{row:Option Nat}(h:a.grownBy w row)(o:Obj):a.grownBy (w.alloc o) row:=
 grown_trans h ⟨rfl,rfl,rfl,by simp,fun k hk _=>Below.heap_alloc _ _ _ hk⟩
theorem grown_drew {a w:World}{row:Option Nat}(h:a.grownBy w row):a.grownBy w.drew row:=⟨h.os,h.tape,h.output,h.size,h.block⟩
theorem grown_set {a w:World}{b:Nat}{p:Addr}(h:a.grownBy w (some b))(hp:p.block=b)(u:Value):a.grownBy (w.setCell p u) (some b):=
 grown_trans h ⟨rfl,rfl,rfl,by simp[World.setCell],fun k hk hn=>Below.heap_setCell _ _ _ _ (by rintro rfl;exact hn (by rw[hp]))⟩
theorem grown_setNew {a w:World}{row:Option Nat}{p:Addr}(h:a.grownBy w row)(hp:a.heap.size≤p.block)(u:Value):a.grownBy (w.setCell p u) row:=
 ⟨h.os,h.tape,h.output,by simpa[World.setCell] using h.size,fun k hk hn=>(Below.heap_setCell _ _ _ _ (by omega)).trans (h.block k hk hn)⟩
theorem grown_below {a w w':World}{row:Option Nat}(h:a.grownBy w row)(hb:Below w.heap.size w w'):a.grownBy w' row:=
 grown_trans h ⟨hb.os,hb.tape,hb.output,hb.size,fun k hk _=>hb.block k hk⟩
theorem heap_at_alloc (w:World)(o:Obj)(b:Nat)(h:b=w.heap.size):(w.alloc o).heap[b]? =some o:=by
 subst h;exact heap_alloc_new w o
theorem heap_past_alloc {w:World}{o x:Obj}{b:Nat}(h:w.heap[b]? =some x):(w.alloc o).heap[b]? =some x:=by
 rw[Below.heap_alloc w o b (lt_of_block h)];exact h
theorem heap_past_set {w:World}{a:Addr}{u:Value}{x:Obj}{b:Nat}(h:w.heap[b]? =some x)(hb:b≠a.block):(w.setCell a u).heap[b]? =some x:=by
 rw[Below.heap_setCell w a u b hb];exact h
theorem al1 {w v:World}{o:Obj}(h:v=w.alloc o):Below w.heap.size w v:=by rw[h];exact(Below.refl _ _).alloc (Nat.le_refl _) _
theorem al2 {w v:World}{o o':Obj}(h:v=(w.alloc o).alloc o'):Below w.heap.size w v:=by rw[h];exact((Below.refl _ _).alloc (Nat.le_refl _) _).alloc (by simp) _
theorem as1 {w v:World}{o:Obj}(h:v=w.alloc o):v.heap.size=w.heap.size+1:=by rw[h];simp
theorem aa {w v:World}{C:Array Value}{e:TypeId}(h:v=w.alloc (.cells C e)):v.heap[w.heap.size]? =some (.cells C e (0,0)):=by rw[h];exact heap_at_alloc _ _ _ rfl
theorem ab {w v:World}{C:Array Value}{e:TypeId}{o:Obj}(h:v=(w.alloc (.cells C e)).alloc o):v.heap[w.heap.size]? =some (.cells C e (0,0)):=by rw[h];exact heap_past_alloc (heap_at_alloc _ _ _ rfl)
theorem ac {w v:World}{C:Array Value}{e:TypeId}{o:Obj}(h:v=(w.alloc o).alloc (.cells C e)):v.heap[w.heap.size+1]? =some (.cells C e (0,0)):=by rw[h];exact heap_at_alloc _ _ _ (by simp)
theorem an {w v0 v:World}{o:Obj}(H:Hid (Below w.heap.size w v0))(h:v=v0.alloc o):Hid (Below w.heap.size w v):=by show Below _ _ _;rw[h];exact H.out.alloc H.out.size _
theorem bu {w v0 v:World}(H:Below w.heap.size w v0)(h:Below v0.heap.size v0 v):Below w.heap.size w v:=H.trans (h.mono H.size)
theorem bt {w v0 v:World}(H:Hid (Below w.heap.size w v0))(h:Below v0.heap.size v0 v):Hid (Below w.heap.size w v):=bu H.out h
theorem ku {w v:World}{b:Nat}{o:Obj}(h:Below w.heap.size w v)(H:w.heap[b]? =some o):v.heap[b]? =some o:=(h.block _ (lt_of_block H)).trans H
theorem kp {w v:World}{b:Nat}{o:Obj}(h:Below w.heap.size w v)(H:Hid (w.heap[b]? =some o)):Hid (v.heap[b]? =some o):=ku h H.out
theorem cl {w:World}{b:Nat}{C:Array Value}{e:TypeId}{v:Value}(h:w.heap[b]? =some (.cells C e (0,0)))(i:Nat)(hv:C[i]? =some v):w.cell? ⟨b,i,none⟩=some v:=by simp[World.cell?,h,hv]
theorem fz {w:World}{b:Nat}{C:Array Value}{e:TypeId}(h:w.heap[b]? =some (.cells C e (0,0)))(i:Nat):w.frozen? ⟨b,i,none⟩=false:=by simp[World.frozen?,h]
def putC (L:List Value):List (Nat×Value)→List Value
 |[]=>L
 | u::l=>putC (L.set u.1 u.2) l
def puts (w:World)(b:Nat):List (Nat×Value)→World
 |[]=>w
 | u::l=>puts (w.setCell ⟨b,u.1,none⟩ u.2) b l
theorem puts_all {w v:World}{b:Nat}{C:Array Value}{e:TypeId}(l:List (Nat×Value))(h:w.heap[b]? =some (.cells C e (0,0)))(hv:v=puts w b l):Below b w v∧Keeps (fun k=>b<k) w v∧v.heap[b]? =some (.cells ⟨putC C.toList l⟩ e (0,0)):=by
 subst hv
 induction l generalizing w C with
 | nil=>exact⟨Below.refl _ _,Keeps.refl _ _,h⟩
 | cons u l ih=>
  have h1:(w.setCell ⟨b,u.1,none⟩ u.2).heap[b]? =some (.cells (C.setIfInBounds u.1 u.2) e (0,0)):=by
   simp only[World.setCell,Array.getElem?_modify,h]
   rfl
  obtain⟨a1,a2,a3⟩:=ih h1
  rw[Array.toList_setIfInBounds] at a3
  have hb:Below b w (w.setCell ⟨b,u.1,none⟩ u.2):=(Below.refl b w).setCell (p:=⟨b,u.1,none⟩) (Nat.le_refl _) _
  exact⟨hb.trans a1,Keeps.trans ⟨hb.size,fun k hk _=>Below.heap_setCell _ _ _ _ (by show k≠b;omega)⟩ a2,a3⟩
end Go.Proofs.YtepkhlpjgnckkaaGreatDoor
