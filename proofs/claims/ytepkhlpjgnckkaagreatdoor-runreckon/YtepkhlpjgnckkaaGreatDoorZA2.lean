/- Rows of strings and of pairs of strings; slices.Index and slices.Contains at strings. And more of the same. -/
import Derived.Test.YtepkhlpjgnckkaaGreatDoorChecked
import Derived.Test.YtepkhlpjgnckkaaGreatDoorZA0
import Derived.Test.YtepkhlpjgnckkaaGreatDoorZAct
import Derived.ProofKit
namespace Go.Proofs.YtepkhlpjgnckkaaGreatDoor
set_option maxRecDepth 100000
set_option maxHeartbeats 8000000
open Go.RowKit
structure Strs (w:World)(ao:Option Addr)(b off:Nat)(ls:List ByteArray):Prop where
 adr:0<ls.length→ao=some ⟨b,off,none⟩
 cell:∀k (h:k<ls.length),w.cell? ⟨b,off+k,none⟩=some (.string ls[k])
 lt:0<ls.length→b<w.heap.size
theorem Strs.later {w w':World}{ao:Option Addr}{b off:Nat}{ls:List ByteArray}(h:Strs w ao b off ls)(hb:Below w.heap.size w w'):Strs w' ao b off ls:=
 ⟨h.adr,fun k hk=>(hb.cell (p:=⟨b,off+k,none⟩) (h.lt (by omega))).trans (h.cell k hk),fun hn=>Nat.lt_of_lt_of_le (h.lt hn) hb.size⟩
theorem Strs.take {w:World}{ao:Option Addr}{b off:Nat}{ls:List ByteArray}(h:Strs w ao b off ls)(k:Nat):Strs w ao b off (ls.take k):=by
 refine⟨fun hp=>h.adr ?_,fun j hj=> ?_,fun hp=>h.lt ?_⟩
 ·simp at hp;omega
 ·simp at hj
  rw[h.cell j (by omega)]
  simp
 ·simp at hp;omega
structure Prs (w:World)(ao:Option Addr)(b off:Nat)(ps:List (ByteArray×ByteArray)):Prop where
 adr:0<ps.length→ao=some ⟨b,off,none⟩
 c0:∀k (h:k<ps.length),w.cell? ⟨b,off+k*2,none⟩=some (.string ps[k].1)
 c1:∀k (h:k<ps.length),w.cell? ⟨b,off+k*2+1,none⟩=some (.string ps[k].2)
 lt:0<ps.length→b<w.heap.size
theorem Prs.later {w w':World}{ao:Option Addr}{b off:Nat}{ps:List (ByteArray×ByteArray)}(h:Prs w ao b off ps)(hb:Below w.heap.size w w'):Prs w' ao b off ps:=
 ⟨h.adr,fun k hk=>(hb.cell (p:=⟨b,off+k*2,none⟩) (h.lt (by omega))).trans (h.c0 k hk),fun k hk=>(hb.cell (p:=⟨b,off+k*2+1,none⟩) (h.lt (by omega))).trans (h.c1 k hk),fun hn=>Nat.lt_of_lt_of_le (h.lt hn) hb.size⟩
theorem toList_inj {s t:ByteArray}(h:s.toList=t.toList):s=t:=by
 rw[Lex.list_of,Lex.list_of] at h
 exact ByteArray.ext (Array.ext' h)
theorem beq_ne {s t:ByteArray}(h:s≠t):(s.toList==t.toList)=false:=by
 simp only[beq_eq_false_iff_ne]
 exact fun e=>h (toList_inj e)
theorem beq_dec (s t:ByteArray):(s.toList==t.toList)=decide (s=t):=by
 by_cases h:s=t
 ·subst h;simp
 ·rw[beq_ne h];simp[h]
theorem index_any (ao:Option Addr)(b off n c:Nat)(ls:List ByteArray)(v:ByteArray)(w:World)(hn:n=ls.length)(hm:n≤maxLen)(ht:Strs w ao b off ls):
 Calls Tryz.prog 24 #[.slice ao n c,.string v] w fun e w'=>e=.returned (.int .i64 (Act.posI ls v))∧w'=w:=by
 have HL:Hid (n=ls.length):=hn
 clear hn
 unfold maxLen at hm
 go_enter Tryz.func24,Tryz.ntmps24
 go_wp2
 go_loopw [8] (fun i wr=>∃k:Nat,k≤n∧i=.int .i64 k∧v ∉ ls.take k∧wr=w) (fun i _=>n - (intOf i).toNat)
 case atStart=>exact⟨0,Nat.zero_le _,rfl,by simp,rfl⟩
 case round=>
  obtain⟨k,hk,rfl,hnot,hw⟩:=hrel
  subst hw
  have HN:Hid (v ∉ ls.take k):=hnot
  clear hnot
  by_cases hlt:k<n
  ·have hl0:=HL.out
   have hao:=ht.adr (by omega)
   subst hao
   have hkl:k<ls.length:=by omega
   have f0:=ht.cell k hkl
   obtain⟨x,hx⟩:∃x,x=ls[k]:=⟨_,rfl⟩
   rw[←hx] at f0
   clear hl0
   by_cases e:v=x
   ·have HP:Hid (Act.posI ls v=(k:Int)):=Act.posI_hit hkl HN.out (by rw[←hx,e])
    clear hx
    subst e
    go_wp2
    go_ret
    refine⟨?_,rfl⟩
    rw[HP.out];rfl
   ·have e':=beq_ne e
    have HX:Hid (v ∉ ls.take (k+1)):=Act.not_take_succ hkl HN.out (by rw[←hx];exact fun g=>e g.symm)
    clear hx e
    go_wp2
    go_roundw
    case rel=>exact⟨k+1,by omega,by go_num,HX.out,trivial⟩
    case measure=>simp[intOf];omega
  ·have HP:Hid (Act.posI ls v= -1):=Act.posI_not (by
    have:=HN.out
    rwa [List.take_of_length_le (by have:=HL.out;omega)] at this)
   go_wp2
   go_ret
   refine⟨?_,rfl⟩
   rw[HP.out];rfl
theorem contains_any (ao:Option Addr)(b off n c:Nat)(ls:List ByteArray)(v:ByteArray)(w:World)(hn:n=ls.length)(hm:n≤maxLen)(ht:Strs w ao b off ls):
 Calls Tryz.prog 16 #[.slice ao n c,.string v] w fun e w'=>e=.returned (.bool (Act.has ls v))∧w'=w:=by
 rw[←Act.posI_geq]
 have HI:=index_any ao b off n c ls v w hn hm ht
 clear hm hn ht
 obtain⟨p,hp⟩:∃p,p=Act.posI ls v:=⟨_,rfl⟩
 rw[←hp] at HI⊢
 have HK:Hid (Calls Tryz.prog 24 #[.slice ao n c,.string v] w fun e w'=>e=.returned (.int .i64 p)∧w'=w):=HI
 clear HI hp
 go_enter Tryz.func16,Tryz.ntmps16
 go_wp2_with fail
 refine HK.out.mono ?_
 rintro e w1 ⟨rfl,hw⟩
 have hw':=hw.symm
 subst hw'
 go_wp2
 go_ret
 exact⟨rfl,rfl⟩
def ReadersAt (w:World)(v:Value)(rs:List ByteArray):Prop:=∃ro rb roff rc,v=.slice ro rs.length rc∧rs.length≤rc∧rc≤maxLen∧Strs w ro rb roff rs
theorem ReadersAt.later {w w':World}{v:Value}{rs:List ByteArray}(h:ReadersAt w v rs)(hb:Below w.heap.size w w'):ReadersAt w' v rs:=by
 obtain⟨ro,rb,roff,rc,h1,h2,h3,h4⟩:=h
 exact⟨ro,rb,roff,rc,h1,h2,h3,h4.later hb⟩
structure Pols (w:World)(ao:Option Addr)(b off:Nat)(x:List (ByteArray×List ByteArray)):Prop where
 adr:0<x.length→ao=some ⟨b,off,none⟩
 c0:∀k (h:k<x.length),w.cell? ⟨b,off+k*2,none⟩=some (.string x[k].1)
 c1:∀k (h:k<x.length),∃v,w.cell? ⟨b,off+k*2+1,none⟩=some v∧ReadersAt w v x[k].2
 lt:0<x.length→b<w.heap.size
theorem Pols.later {w w':World}{ao:Option Addr}{b off:Nat}{x:List (ByteArray×List ByteArray)}(h:Pols w ao b off x)(hb:Below w.heap.size w w'):Pols w' ao b off x:=by
 refine⟨h.adr,fun k hk=>(hb.cell (p:=⟨b,off+k*2,none⟩) (h.lt (by omega))).trans (h.c0 k hk),fun k hk=> ?_,fun hn=>Nat.lt_of_lt_of_le (h.lt hn) hb.size⟩
 obtain⟨v,h1,h2⟩:=h.c1 k hk
 exact⟨v,(hb.cell (p:=⟨b,off+k*2+1,none⟩) (h.lt (by omega))).trans h1,h2.later hb⟩
abbrev Pol:=ByteArray×List ByteArray
def firstI {α:Type}(t:α→Bool)(l:List α):Int:=if l.any t=true then(l.findIdx t:Int) else -1
theorem firstI_geq {α:Type}(t:α→Bool)(l:List α):decide (0≤firstI t l)=l.any t:=by
 unfold firstI
 cases h:l.any t<;>simp
theorem firstI_hit {α:Type}{t:α→Bool}{l:List α}{k:Nat}(hk:k<l.length)(hn:∀s∈l.take k,t s=false)(h:t l[k]=true):firstI t l=(k:Int):=by
 have ha:l.any t=true:=List.any_eq_true.2 ⟨_,List.getElem_mem hk,h⟩
 have e:l.findIdx t=k:=by
  rw[List.findIdx_eq hk]
  refine⟨h,fun j hj=> ?_⟩
  have:=hn l[j] (by rw[List.mem_take_iff_getElem];exact⟨j,by omega,rfl⟩)
  simpa using this
 simp[firstI,ha,e]
theorem firstI_miss {α:Type}{t:α→Bool}{l:List α}(hn:∀s∈l,t s=false):firstI t l= -1:=by
 have ha:l.any t=false:=List.any_eq_false.2 fun x hx=>by simp[hn x hx]
 simp[firstI,ha]
theorem none_step {α:Type}{t:α→Bool}{l:List α}{k:Nat}(hk:k<l.length)(hn:∀s∈l.take k,t s=false)(h:t l[k]=false):∀s∈l.take (k+1),t s=false:=by
 intro s hs
 rw[List.take_succ_eq_append_getElem hk,List.mem_append,List.mem_singleton] at hs
 rcases hs with hs | hs
 ·exact hn s hs
 ·rw[hs];exact h
theorem indexFuncS (g:Nat)(lb:Array Value)(eg:∀args w,(callFunc g args).run Tryz.prog w=.ok (.enter g args) w)(t:ByteArray→Bool)(ao:Option Addr)(b off n c:Nat)(ls:List ByteArray)(w:World)(hn:n=ls.length)(hm:n≤1000)(ht:Strs w ao b off ls)
 (hp:∀(W:World) (s:ByteArray),s∈ls→Below w.heap.size w W→Calls Tryz.prog g (#[.string s]++lb) W fun e w'=>e=.returned (.bool (t s))∧Below W.heap.size W w'):
 Calls Tryz.prog 108 #[.slice ao n c,.func (.func g) #[] lb] w fun e w'=>e=.returned (.int .i64 (firstI t ls))∧Below w.heap.size w w':=by
 have HL:Hid (n=ls.length):=hn
 have HP:Hid (∀(W:World) (s:ByteArray),s∈ls→Below w.heap.size w W→Calls Tryz.prog g (#[.string s]++lb) W fun e w'=>e=.returned (.bool (t s))∧Below W.heap.size W w'):=hp
 clear hn hp
 go_enter Tryz.func108,Tryz.ntmps108
 go_wp2
 go_loopw [8] (fun i wr=>∃k:Nat,k≤n∧i=.int .i64 k∧Hid (∀s∈ls.take k,t s=false)∧Hid (Below w.heap.size w wr)) (fun i _=>n - (intOf i).toNat)
 case atStart=>exact⟨0,Nat.zero_le _,rfl,by show ∀s∈_,_;simp,Below.refl _ _⟩
 case round=>
  obtain⟨k,hk,rfl,HN,HB⟩:=hrel
  by_cases hlt:k<n
  ·have hl0:=HL.out
   have hao:=ht.adr (by omega)
   have hkl:k<ls.length:=by omega
   have f0:=(ht.later HB.out).cell k hkl
   obtain⟨x,hx⟩:∃x,x=ls[k]:=⟨_,rfl⟩
   have hcall:=HP.out wr x (hx▸List.getElem_mem hkl) HB.out
   have HX:Hid (x=ls[k]):=hx
   rw[←hx] at f0
   clear hl0 hx
   subst hao
   cases hq:t x with
   | true=>
    rw[hq] at hcall
    have HF:Hid (firstI t ls=(k:Int)):=firstI_hit hkl HN.out (by rw[←HX.out];exact hq)
    clear hq
    go_wp2_with fail
    refine hcall.mono ?_
    rintro e w1 ⟨rfl,hb1⟩
    go_wp2
    go_ret
    refine⟨?_,HB.out.trans (hb1.mono HB.out.size)⟩
    rw[HF.out];rfl
   | false=>
    rw[hq] at hcall
    have HS:Hid (∀s∈ls.take (k+1),t s=false):=none_step hkl HN.out (by rw[←HX.out];exact hq)
    clear hq
    go_wp2_with fail
    refine hcall.mono ?_
    rintro e w1 ⟨rfl,hb1⟩
    have HB1:Hid (Below w.heap.size w w1):=HB.out.trans (hb1.mono HB.out.size)
    clear hb1
    go_wp2
    go_roundw
    case rel=>exact⟨k+1,by omega,by go_num,HS,HB1⟩
    case measure=>simp[intOf];omega
  ·have HF:Hid (firstI t ls= -1):=firstI_miss (by
    have:=HN.out
    rwa [List.take_of_length_le (by have:=HL.out;omega)] at this)
   go_wp2
   go_ret
   refine⟨?_,HB.out⟩
   rw[HF.out];rfl
theorem containsFuncS (g:Nat)(lb:Array Value)(eg:∀args w,(callFunc g args).run Tryz.prog w=.ok (.enter g args) w)(t:ByteArray→Bool)(ao:Option Addr)(b off n c:Nat)(ls:List ByteArray)(w:World)(hn:n=ls.length)(hm:n≤1000)(ht:Strs w ao b off ls)
 (hp:∀(W:World) (s:ByteArray),s∈ls→Below w.heap.size w W→Calls Tryz.prog g (#[.string s]++lb) W fun e w'=>e=.returned (.bool (t s))∧Below W.heap.size W w'):
 Calls Tryz.prog 70 #[.slice ao n c,.func (.func g) #[] lb] w fun e w'=>e=.returned (.bool (ls.any t))∧Below w.heap.size w w':=by
 rw[←firstI_geq]
 have HI:=indexFuncS g lb eg t ao b off n c ls w hn hm ht hp
 clear hm hn ht hp eg
 obtain⟨p,hp⟩:∃p,p=firstI t ls:=⟨_,rfl⟩
 rw[←hp] at HI⊢
 have HK:Hid (Calls Tryz.prog 108 #[.slice ao n c,.func (.func g) #[] lb] w fun e w'=>e=.returned (.int .i64 p)∧Below w.heap.size w w'):=HI
 clear HI hp
 go_enter Tryz.func70,Tryz.ntmps70
 go_wp2_with fail
 refine HK.out.mono ?_
 rintro e w1 ⟨rfl,hb1⟩
 go_wp2
 go_ret
 exact⟨rfl,hb1⟩
theorem indexFuncP (g:Nat)(lb:Array Value)(eg:∀args w,(callFunc g args).run Tryz.prog w=.ok (.enter g args) w)(t:Pol→Bool)(ao:Option Addr)(b off n c:Nat)(ls:List Pol)(w:World)(hn:n=ls.length)(hm:n≤1000)(ht:Pols w ao b off ls)
 (hp:∀(W:World) (s:Pol) (v:Value),s∈ls→ReadersAt W v s.2→Below w.heap.size w W→Calls Tryz.prog g (#[.agg #[.string s.1,v]]++lb) W fun e w'=>e=.returned (.bool (t s))∧Below W.heap.size W w'):
 Calls Tryz.prog 115 #[.slice ao n c,.func (.func g) #[] lb] w fun e w'=>e=.returned (.int .i64 (firstI t ls))∧Below w.heap.size w w':=by
 have HL:Hid (n=ls.length):=hn
 have HP:Hid (∀(W:World) (s:Pol) (v:Value),s∈ls→ReadersAt W v s.2→Below w.heap.size w W→Calls Tryz.prog g (#[.agg #[.string s.1,v]]++lb) W fun e w'=>e=.returned (.bool (t s))∧Below W.heap.size W w'):=hp
 clear hn hp
 go_enter Tryz.func115,Tryz.ntmps115
 go_wp2
 go_loopw [8] (fun i wr=>∃k:Nat,k≤n∧i=.int .i64 k∧Hid (∀s∈ls.take k,t s=false)∧Hid (Below w.heap.size w wr)) (fun i _=>n - (intOf i).toNat)
 case atStart=>exact⟨0,Nat.zero_le _,rfl,by show ∀s∈_,_;simp,Below.refl _ _⟩
 case round=>
  obtain⟨k,hk,rfl,HN,HB⟩:=hrel
  by_cases hlt:k<n
  ·have hl0:=HL.out
   have hao:=ht.adr (by omega)
   have hkl:k<ls.length:=by omega
   have f0:=(ht.later HB.out).c0 k hkl
   obtain⟨v,f1,hv⟩:=(ht.later HB.out).c1 k hkl
   obtain⟨x,hx⟩:∃x,x=ls[k]:=⟨_,rfl⟩
   rw[←hx] at f0 hv
   have hcall:=HP.out wr x v (hx▸List.getElem_mem hkl) hv HB.out
   have HX:Hid (x=ls[k]):=hx
   clear hl0 hx hv
   subst hao
   cases hq:t x with
   | true=>
    rw[hq] at hcall
    have HF:Hid (firstI t ls=(k:Int)):=firstI_hit hkl HN.out (by rw[←HX.out];exact hq)
    clear hq
    go_wp2_with fail
    refine hcall.mono ?_
    rintro e w1 ⟨rfl,hb1⟩
    go_wp2
    go_ret
    refine⟨?_,HB.out.trans (hb1.mono HB.out.size)⟩
    rw[HF.out];rfl
   | false=>
    rw[hq] at hcall
    have HS:Hid (∀s∈ls.take (k+1),t s=false):=none_step hkl HN.out (by rw[←HX.out];exact hq)
    clear hq
    go_wp2_with fail
    refine hcall.mono ?_
    rintro e w1 ⟨rfl,hb1⟩
    have HB1:Hid (Below w.heap.size w w1):=HB.out.trans (hb1.mono HB.out.size)
    clear hb1
    go_wp2
    go_roundw
    case rel=>exact⟨k+1,by omega,by go_num,HS,HB1⟩
    case measure=>simp[intOf];omega
  ·have HF:Hid (firstI t ls= -1):=firstI_miss (by
    have:=HN.out
    rwa [List.take_of_length_le (by have:=HL.out;omega)] at this)
   go_wp2
   go_ret
   refine⟨?_,HB.out⟩
   rw[HF.out];rfl
theorem containsFuncP (g:Nat)(lb:Array Value)(eg:∀args w,(callFunc g args).run Tryz.prog w=.ok (.enter g args) w)(t:Pol→Bool)(ao:Option Addr)(b off n c:Nat)(ls:List Pol)(w:World)(hn:n=ls.length)(hm:n≤1000)(ht:Pols w ao b off ls)
 (hp:∀(W:World) (s:Pol) (v:Value),s∈ls→ReadersAt W v s.2→Below w.heap.size w W→Calls Tryz.prog g (#[.agg #[.string s.1,v]]++lb) W fun e w'=>e=.returned (.bool (t s))∧Below W.heap.size W w'):
 Calls Tryz.prog 77 #[.slice ao n c,.func (.func g) #[] lb] w fun e w'=>e=.returned (.bool (ls.any t))∧Below w.heap.size w w':=by
 rw[←firstI_geq]
 have HI:=indexFuncP g lb eg t ao b off n c ls w hn hm ht hp
 clear hm hn ht hp eg
 obtain⟨p,hp⟩:∃p,p=firstI t ls:=⟨_,rfl⟩
 rw[←hp] at HI⊢
 have HK:Hid (Calls Tryz.prog 115 #[.slice ao n c,.func (.func g) #[] lb] w fun e w'=>e=.returned (.int .i64 p)∧Below w.heap.size w w'):=HI
 clear HI hp
 go_enter Tryz.func77,Tryz.ntmps77
 go_wp2_with fail
 refine HK.out.mono ?_
 rintro e w1 ⟨rfl,hb1⟩
 go_wp2
 go_ret
 exact⟨rfl,hb1⟩
structure Rws (sz:Nat)(w:World)(ao:Option Addr)(b off:Nat)(ls:List (Array Value)):Prop where
 adr:0<ls.length→ao=some ⟨b,off,none⟩
 len:∀k (h:k<ls.length),ls[k].size=sz
 cell:∀k (h:k<ls.length) j (h':j<ls[k].size),w.cell? ⟨b,off+k*sz+j,none⟩=some ls[k][j]
 lt:0<ls.length→b<w.heap.size
theorem Rws.later {sz:Nat}{w w':World}{ao:Option Addr}{b off:Nat}{ls:List (Array Value)}(h:Rws sz w ao b off ls)(hb:Below w.heap.size w w'):Rws sz w' ao b off ls:=
 ⟨h.adr,h.len,fun k hk j hj=>(hb.cell (p:=⟨b,off+k*sz+j,none⟩) (h.lt (by omega))).trans (h.cell k hk j hj),fun hn=>Nat.lt_of_lt_of_le (h.lt hn) hb.size⟩
theorem Rws.take {sz:Nat}{w:World}{ao:Option Addr}{b off:Nat}{ls:List (Array Value)}(h:Rws sz w ao b off ls)(k:Nat):Rws sz w ao b off (ls.take k):=by
 refine⟨fun hp=>h.adr (by simp at hp;omega),fun j hj=> ?_,fun j hj i hi=> ?_,fun hp=>h.lt (by simp at hp;omega)⟩
 ·simp at hj;simp;exact h.len j (by omega)
 ·simp at hj;simp at hi⊢;exact h.cell j (by omega) i hi
theorem arr3 {a:Array Value}(h:a.size=3):∃x0 x1 x2,a=#[x0,x1,x2]:=by
 refine⟨a[0],a[1],a[2],Array.ext (by simp[h]) fun i h1 h2=> ?_⟩
 simp at h2
 rcases(by omega:i=0∨i=1∨i=2) with rfl | rfl | rfl<;>rfl
theorem arr5 {a:Array Value}(h:a.size=5):∃x0 x1 x2 x3 x4,a=#[x0,x1,x2,x3,x4]:=by
 refine⟨a[0],a[1],a[2],a[3],a[4],Array.ext (by simp[h]) fun i h1 h2=> ?_⟩
 simp at h2
 rcases(by omega:i=0∨i=1∨i=2∨i=3∨i=4) with rfl | rfl | rfl | rfl | rfl<;>rfl
theorem arr9 {a:Array Value}(h:a.size=9):∃x0 x1 x2 x3 x4 x5 x6 x7 x8,a=#[x0,x1,x2,x3,x4,x5,x6,x7,x8]:=by
 refine⟨a[0],a[1],a[2],a[3],a[4],a[5],a[6],a[7],a[8],Array.ext (by simp[h]) fun i h1 h2=> ?_⟩
 simp at h2
 rcases(by omega:i=0∨i=1∨i=2∨i=3∨i=4∨i=5∨i=6∨i=7∨i=8) with rfl | rfl | rfl | rfl | rfl | rfl | rfl | rfl | rfl<;>rfl
theorem indexFuncQ (g:Nat)(lb:Array Value)(eg:∀args w,(callFunc g args).run Tryz.prog w=.ok (.enter g args) w)(t:Array Value→Bool)(ao:Option Addr)(b off n c:Nat)(ls:List (Array Value))(w:World)(hn:n=ls.length)(hm:n≤1000)(ht:Rws 9 w ao b off ls)
 (hp:∀(W:World) (x:Array Value),x∈ls→Below w.heap.size w W→Calls Tryz.prog g (#[.agg x]++lb) W fun e w'=>e=.returned (.bool (t x))∧Below W.heap.size W w'):
 Calls Tryz.prog 32 #[.slice ao n c,.func (.func g) #[] lb] w fun e w'=>e=.returned (.int .i64 (firstI t ls))∧Below w.heap.size w w':=by
 have HL:=hidq hn
 have HP:=hidq hp
 have HT:=hidq ht
 clear hn hp ht
 go_enter Tryz.func32,Tryz.ntmps32
 go_wp2
 go_loopw [8] (fun i wr=>∃k:Nat,k≤n∧i=.int .i64 k∧Hid (∀s∈ls.take k,t s=false)∧Hid (Below w.heap.size w wr)) (fun i _=>n - (intOf i).toNat)
 case atStart=>exact⟨0,Nat.zero_le _,rfl,by show ∀s∈_,_;simp,Below.refl _ _⟩
 case round=>
  obtain⟨k,hk,rfl,HN,HB⟩:=hrel
  by_cases hlt:k<n
  ·have hkl:k<ls.length:=by have:=HL.out;omega
   have hao:=HT.out.adr (by omega)
   have hlw:=(HT.out.later HB.out).lt (by omega)
   obtain⟨x0,x1,x2,x3,x4,x5,x6,x7,x8,hx⟩:=arr9 (HT.out.len k hkl)
   have hcs:=(HT.out.later HB.out).cell k hkl
   rw[hx] at hcs
   have f0:=hcs 0 (by simp)
   have f1:=hcs 1 (by simp)
   have f2:=hcs 2 (by simp)
   have f3:=hcs 3 (by simp)
   have f4:=hcs 4 (by simp)
   have f5:=hcs 5 (by simp)
   have f6:=hcs 6 (by simp)
   have f7:=hcs 7 (by simp)
   have f8:=hcs 8 (by simp)
   have hcall:=HP.out wr #[x0,x1,x2,x3,x4,x5,x6,x7,x8] (hx▸List.getElem_mem hkl) HB.out
   have HX:=hidq hx
   clear hx hcs
   subst hao
   simp only[List.getElem_toArray,List.getElem_cons_zero,List.getElem_cons_succ,Nat.add_zero] at f0 f1 f2 f3 f4 f5 f6 f7 f8
   cases hq:t #[x0,x1,x2,x3,x4,x5,x6,x7,x8] with
   | true=>
    rw[hq] at hcall
    have HF:Hid (firstI t ls=(k:Int)):=firstI_hit hkl HN.out (by rw[HX.out];exact hq)
    clear hq
    go_wp2_with fail
    refine hcall.mono ?_
    rintro e w1 ⟨rfl,hb1⟩
    go_wp2
    go_ret
    refine⟨?_,HB.out.trans (hb1.mono HB.out.size)⟩
    rw[HF.out];rfl
   | false=>
    rw[hq] at hcall
    have HS:Hid (∀s∈ls.take (k+1),t s=false):=none_step hkl HN.out (by rw[HX.out];exact hq)
    clear hq
    go_wp2_with fail
    refine hcall.mono ?_
    rintro e w1 ⟨rfl,hb1⟩
    have HB1:Hid (Below w.heap.size w w1):=HB.out.trans (hb1.mono HB.out.size)
    clear hb1
    go_wp2
    go_roundw
    case rel=>exact⟨k+1,by omega,by go_num,HS,HB1⟩
    case measure=>simp[intOf];omega
  ·have HF:Hid (firstI t ls= -1):=firstI_miss (by
    have:=HN.out
    rwa [List.take_of_length_le (by have:=HL.out;omega)] at this)
   go_wp2
   go_ret
   refine⟨?_,HB.out⟩
   rw[HF.out];rfl
theorem containsFuncQ (g:Nat)(lb:Array Value)(eg:∀args w,(callFunc g args).run Tryz.prog w=.ok (.enter g args) w)(t:Array Value→Bool)(ao:Option Addr)(b off n c:Nat)(ls:List (Array Value))(w:World)(hn:n=ls.length)(hm:n≤1000)(ht:Rws 9 w ao b off ls)
 (hp:∀(W:World) (x:Array Value),x∈ls→Below w.heap.size w W→Calls Tryz.prog g (#[.agg x]++lb) W fun e w'=>e=.returned (.bool (t x))∧Below W.heap.size W w'):
 Calls Tryz.prog 122 #[.slice ao n c,.func (.func g) #[] lb] w fun e w'=>e=.returned (.bool (ls.any t))∧Below w.heap.size w w':=by
 rw[←firstI_geq]
 have HI:=indexFuncQ g lb eg t ao b off n c ls w hn hm ht hp
 clear hm hn ht hp eg
 obtain⟨p,hp⟩:∃p,p=firstI t ls:=⟨_,rfl⟩
 rw[←hp] at HI⊢
 have HK:=hidq HI
 clear HI hp
 go_enter Tryz.func122,Tryz.ntmps122
 go_wp2_with fail
 refine HK.out.mono ?_
 rintro e w1 ⟨rfl,hb1⟩
 go_wp2
 go_ret
 exact⟨rfl,hb1⟩
theorem indexFuncC (g:Nat)(lb:Array Value)(eg:∀args w,(callFunc g args).run Tryz.prog w=.ok (.enter g args) w)(t:Array Value→Bool)(ao:Option Addr)(b off n c:Nat)(ls:List (Array Value))(w:World)(hn:n=ls.length)(hm:n≤1000)(ht:Rws 5 w ao b off ls)
 (hp:∀(W:World) (x:Array Value),x∈ls→Below w.heap.size w W→Calls Tryz.prog g (#[.agg x]++lb) W fun e w'=>e=.returned (.bool (t x))∧Below W.heap.size W w'):
 Calls Tryz.prog 133 #[.slice ao n c,.func (.func g) #[] lb] w fun e w'=>e=.returned (.int .i64 (firstI t ls))∧Below w.heap.size w w':=by
 have HL:=hidq hn
 have HP:=hidq hp
 have HT:=hidq ht
 clear hn hp ht
 go_enter Tryz.func133,Tryz.ntmps133
 go_wp2
 go_loopw [8] (fun i wr=>∃k:Nat,k≤n∧i=.int .i64 k∧Hid (∀s∈ls.take k,t s=false)∧Hid (Below w.heap.size w wr)) (fun i _=>n - (intOf i).toNat)
 case atStart=>exact⟨0,Nat.zero_le _,rfl,by show ∀s∈_,_;simp,Below.refl _ _⟩
 case round=>
  obtain⟨k,hk,rfl,HN,HB⟩:=hrel
  by_cases hlt:k<n
  ·have hkl:k<ls.length:=by have:=HL.out;omega
   have hao:=HT.out.adr (by omega)
   have hlw:=(HT.out.later HB.out).lt (by omega)
   obtain⟨x0,x1,x2,x3,x4,hx⟩:=arr5 (HT.out.len k hkl)
   have hcs:=(HT.out.later HB.out).cell k hkl
   rw[hx] at hcs
   have f0:=hcs 0 (by simp)
   have f1:=hcs 1 (by simp)
   have f2:=hcs 2 (by simp)
   have f3:=hcs 3 (by simp)
   have f4:=hcs 4 (by simp)
   have hcall:=HP.out wr #[x0,x1,x2,x3,x4] (hx▸List.getElem_mem hkl) HB.out
   have HX:=hidq hx
   clear hx hcs
   subst hao
   simp only[List.getElem_toArray,List.getElem_cons_zero,List.getElem_cons_succ,Nat.add_zero] at f0 f1 f2 f3 f4
   cases hq:t #[x0,x1,x2,x3,x4] with
   | true=>
    rw[hq] at hcall
    have HF:Hid (firstI t ls=(k:Int)):=firstI_hit hkl HN.out (by rw[HX.out];exact hq)
    clear hq
    go_wp2_with fail
    refine hcall.mono ?_
    rintro e w1 ⟨rfl,hb1⟩
    go_wp2
    go_ret
    refine⟨?_,HB.out.trans (hb1.mono HB.out.size)⟩
    rw[HF.out];rfl
   | false=>
    rw[hq] at hcall
    have HS:Hid (∀s∈ls.take (k+1),t s=false):=none_step hkl HN.out (by rw[HX.out];exact hq)
    clear hq
    go_wp2_with fail
    refine hcall.mono ?_
    rintro e w1 ⟨rfl,hb1⟩
    have HB1:Hid (Below w.heap.size w w1):=HB.out.trans (hb1.mono HB.out.size)
    clear hb1
    go_wp2
    go_roundw
    case rel=>exact⟨k+1,by omega,by go_num,HS,HB1⟩
    case measure=>simp[intOf];omega
  ·have HF:Hid (firstI t ls= -1):=firstI_miss (by
    have:=HN.out
    rwa [List.take_of_length_le (by have:=HL.out;omega)] at this)
   go_wp2
   go_ret
   refine⟨?_,HB.out⟩
   rw[HF.out];rfl
theorem containsFuncC (g:Nat)(lb:Array Value)(eg:∀args w,(callFunc g args).run Tryz.prog w=.ok (.enter g args) w)(t:Array Value→Bool)(ao:Option Addr)(b off n c:Nat)(ls:List (Array Value))(w:World)(hn:n=ls.length)(hm:n≤1000)(ht:Rws 5 w ao b off ls)
 (hp:∀(W:World) (x:Array Value),x∈ls→Below w.heap.size w W→Calls Tryz.prog g (#[.agg x]++lb) W fun e w'=>e=.returned (.bool (t x))∧Below W.heap.size W w'):
 Calls Tryz.prog 119 #[.slice ao n c,.func (.func g) #[] lb] w fun e w'=>e=.returned (.bool (ls.any t))∧Below w.heap.size w w':=by
 rw[←firstI_geq]
 have HI:=indexFuncC g lb eg t ao b off n c ls w hn hm ht hp
 clear hm hn ht hp eg
 obtain⟨p,hp⟩:∃p,p=firstI t ls:=⟨_,rfl⟩
 rw[←hp] at HI⊢
 have HK:=hidq HI
 clear HI hp
 go_enter Tryz.func119,Tryz.ntmps119
 go_wp2_with fail
 refine HK.out.mono ?_
 rintro e w1 ⟨rfl,hb1⟩
 go_wp2
 go_ret
 exact⟨rfl,hb1⟩
theorem indexFuncM (g:Nat)(lb:Array Value)(eg:∀args w,(callFunc g args).run Tryz.prog w=.ok (.enter g args) w)(t:Array Value→Bool)(ao:Option Addr)(b off n c:Nat)(ls:List (Array Value))(w:World)(hn:n=ls.length)(hm:n≤1000)(ht:Rws 3 w ao b off ls)
 (hp:∀(W:World) (x:Array Value),x∈ls→Below w.heap.size w W→Calls Tryz.prog g (#[.agg x]++lb) W fun e w'=>e=.returned (.bool (t x))∧Below W.heap.size W w'):
 Calls Tryz.prog 116 #[.slice ao n c,.func (.func g) #[] lb] w fun e w'=>e=.returned (.int .i64 (firstI t ls))∧Below w.heap.size w w':=by
 have HL:=hidq hn
 have HP:=hidq hp
 have HT:=hidq ht
 clear hn hp ht
 go_enter Tryz.func116,Tryz.ntmps116
 go_wp2
 go_loopw [8] (fun i wr=>∃k:Nat,k≤n∧i=.int .i64 k∧Hid (∀s∈ls.take k,t s=false)∧Hid (Below w.heap.size w wr)) (fun i _=>n - (intOf i).toNat)
 case atStart=>exact⟨0,Nat.zero_le _,rfl,by show ∀s∈_,_;simp,Below.refl _ _⟩
 case round=>
  obtain⟨k,hk,rfl,HN,HB⟩:=hrel
  by_cases hlt:k<n
  ·have hkl:k<ls.length:=by have:=HL.out;omega
   have hao:=HT.out.adr (by omega)
   have hlw:=(HT.out.later HB.out).lt (by omega)
   obtain⟨x0,x1,x2,hx⟩:=arr3 (HT.out.len k hkl)
   have hcs:=(HT.out.later HB.out).cell k hkl
   rw[hx] at hcs
   have f0:=hcs 0 (by simp)
   have f1:=hcs 1 (by simp)
   have f2:=hcs 2 (by simp)
   have hcall:=HP.out wr #[x0,x1,x2] (hx▸List.getElem_mem hkl) HB.out
   have HX:=hidq hx
   clear hx hcs
   subst hao
   simp only[List.getElem_toArray,List.getElem_cons_zero,List.getElem_cons_succ,Nat.add_zero] at f0 f1 f2
   cases hq:t #[x0,x1,x2] with
   | true=>
    rw[hq] at hcall
    have HF:Hid (firstI t ls=(k:Int)):=firstI_hit hkl HN.out (by rw[HX.out];exact hq)
    clear hq
    go_wp2_with fail
    refine hcall.mono ?_
    rintro e w1 ⟨rfl,hb1⟩
    go_wp2
    go_ret
    refine⟨?_,HB.out.trans (hb1.mono HB.out.size)⟩
    rw[HF.out];rfl
   | false=>
    rw[hq] at hcall
    have HS:Hid (∀s∈ls.take (k+1),t s=false):=none_step hkl HN.out (by rw[HX.out];exact hq)
    clear hq
    go_wp2_with fail
    refine hcall.mono ?_
    rintro e w1 ⟨rfl,hb1⟩
    have HB1:Hid (Below w.heap.size w w1):=HB.out.trans (hb1.mono HB.out.size)
    clear hb1
    go_wp2
    go_roundw
    case rel=>exact⟨k+1,by omega,by go_num,HS,HB1⟩
    case measure=>simp[intOf];omega
  ·have HF:Hid (firstI t ls= -1):=firstI_miss (by
    have:=HN.out
    rwa [List.take_of_length_le (by have:=HL.out;omega)] at this)
   go_wp2
   go_ret
   refine⟨?_,HB.out⟩
   rw[HF.out];rfl
theorem containsFuncM (g:Nat)(lb:Array Value)(eg:∀args w,(callFunc g args).run Tryz.prog w=.ok (.enter g args) w)(t:Array Value→Bool)(ao:Option Addr)(b off n c:Nat)(ls:List (Array Value))(w:World)(hn:n=ls.length)(hm:n≤1000)(ht:Rws 3 w ao b off ls)
 (hp:∀(W:World) (x:Array Value),x∈ls→Below w.heap.size w W→Calls Tryz.prog g (#[.agg x]++lb) W fun e w'=>e=.returned (.bool (t x))∧Below W.heap.size W w'):
 Calls Tryz.prog 79 #[.slice ao n c,.func (.func g) #[] lb] w fun e w'=>e=.returned (.bool (ls.any t))∧Below w.heap.size w w':=by
 rw[←firstI_geq]
 have HI:=indexFuncM g lb eg t ao b off n c ls w hn hm ht hp
 clear hm hn ht hp eg
 obtain⟨p,hp⟩:∃p,p=firstI t ls:=⟨_,rfl⟩
 rw[←hp] at HI⊢
 have HK:=hidq HI
 clear HI hp
 go_enter Tryz.func79,Tryz.ntmps79
 go_wp2_with fail
 refine HK.out.mono ?_
 rintro e w1 ⟨rfl,hb1⟩
 go_wp2
 go_ret
 exact⟨rfl,hb1⟩
theorem indexFuncV (g:Nat)(lb:Array Value)(eg:∀args w,(callFunc g args).run Tryz.prog w=.ok (.enter g args) w)(t:Array Value→Bool)(ao:Option Addr)(b off n c:Nat)(ls:List (Array Value))(w:World)(hn:n=ls.length)(hm:n≤1000)(ht:Rws 3 w ao b off ls)
 (hp:∀(W:World) (x:Array Value),x∈ls→Below w.heap.size w W→Calls Tryz.prog g (#[.agg x]++lb) W fun e w'=>e=.returned (.bool (t x))∧Below W.heap.size W w'):
 Calls Tryz.prog 130 #[.slice ao n c,.func (.func g) #[] lb] w fun e w'=>e=.returned (.int .i64 (firstI t ls))∧Below w.heap.size w w':=by
 have HL:=hidq hn
 have HP:=hidq hp
 have HT:=hidq ht
 clear hn hp ht
 go_enter Tryz.func130,Tryz.ntmps130
 go_wp2
 go_loopw [8] (fun i wr=>∃k:Nat,k≤n∧i=.int .i64 k∧Hid (∀s∈ls.take k,t s=false)∧Hid (Below w.heap.size w wr)) (fun i _=>n - (intOf i).toNat)
 case atStart=>exact⟨0,Nat.zero_le _,rfl,by show ∀s∈_,_;simp,Below.refl _ _⟩
 case round=>
  obtain⟨k,hk,rfl,HN,HB⟩:=hrel
  by_cases hlt:k<n
  ·have hkl:k<ls.length:=by have:=HL.out;omega
   have hao:=HT.out.adr (by omega)
   have hlw:=(HT.out.later HB.out).lt (by omega)
   obtain⟨x0,x1,x2,hx⟩:=arr3 (HT.out.len k hkl)
   have hcs:=(HT.out.later HB.out).cell k hkl
   rw[hx] at hcs
   have f0:=hcs 0 (by simp)
   have f1:=hcs 1 (by simp)
   have f2:=hcs 2 (by simp)
   have hcall:=HP.out wr #[x0,x1,x2] (hx▸List.getElem_mem hkl) HB.out
   have HX:=hidq hx
   clear hx hcs
   subst hao
   simp only[List.getElem_toArray,List.getElem_cons_zero,List.getElem_cons_succ,Nat.add_zero] at f0 f1 f2
   cases hq:t #[x0,x1,x2] with
   | true=>
    rw[hq] at hcall
    have HF:Hid (firstI t ls=(k:Int)):=firstI_hit hkl HN.out (by rw[HX.out];exact hq)
    clear hq
    go_wp2_with fail
    refine hcall.mono ?_
    rintro e w1 ⟨rfl,hb1⟩
    go_wp2
    go_ret
    refine⟨?_,HB.out.trans (hb1.mono HB.out.size)⟩
    rw[HF.out];rfl
   | false=>
    rw[hq] at hcall
    have HS:Hid (∀s∈ls.take (k+1),t s=false):=none_step hkl HN.out (by rw[HX.out];exact hq)
    clear hq
    go_wp2_with fail
    refine hcall.mono ?_
    rintro e w1 ⟨rfl,hb1⟩
    have HB1:Hid (Below w.heap.size w w1):=HB.out.trans (hb1.mono HB.out.size)
    clear hb1
    go_wp2
    go_roundw
    case rel=>exact⟨k+1,by omega,by go_num,HS,HB1⟩
    case measure=>simp[intOf];omega
  ·have HF:Hid (firstI t ls= -1):=firstI_miss (by
    have:=HN.out
    rwa [List.take_of_length_le (by have:=HL.out;omega)] at this)
   go_wp2
   go_ret
   refine⟨?_,HB.out⟩
   rw[HF.out];rfl
end Go.Proofs.YtepkhlpjgnckkaaGreatDoor
