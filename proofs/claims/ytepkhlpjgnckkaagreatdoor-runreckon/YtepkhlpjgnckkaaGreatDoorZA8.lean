/- Contracts of scan.letters, digits and first. And more of the same. -/
import Derived.Test.YtepkhlpjgnckkaaGreatDoorZA7
import Derived.Test.YtepkhlpjgnckkaaGreatDoorZShelf
import Derived.Deep.RegionWith
import Derived.Deep.DeepCutAuto
namespace Go.Proofs.YtepkhlpjgnckkaaGreatDoor
set_option maxRecDepth 100000
set_option maxHeartbeats 8000000
open Go.RowKit
theorem cut_list (s:ByteArray)(n:Nat):Hid ((s.extract 0 n).data.toList=s.data.toList.take n):=by show _=_;rw[Lib.extract_data];simp
theorem cut_size (s:ByteArray)(n:Nat)(h:n≤s.size):(s.extract 0 n).size=n:=by rw[←Lex.len_of,(cut_list s n).out,List.length_take,Lex.len_of];omega
theorem cut_le (s:ByteArray)(n:Nat):(s.extract 0 n).size≤s.size:=by rw[←Lex.len_of,(cut_list s n).out,List.length_take,Lex.len_of];omega
theorem run_line_t (s:ByteArray)(w:World)(hs:s.size≤100000):
 Calls Tryz.prog 73 #[.string s,.func (.func 136) #[] #[]] w fun e w'=>∃t:ByteArray,e=.returned (.string t)∧Hid (t.data.toList=s.data.toList.take (Lex.runLen Lex.lineB s.data.toList))∧t.size=Lex.runLen Lex.lineB s.data.toList∧t.size≤s.size∧w'=w:=
 (run_line s w hs).mono fun _ _ ⟨h1,h2⟩=>⟨_,h1,cut_list s _,cut_size s _ (by rw[←Lex.len_of];exact Lex.runLen_le _ _),cut_le s _,h2⟩
theorem run_name_t (s:ByteArray)(w:World)(hs:s.size≤100000):
 Calls Tryz.prog 73 #[.string s,.func (.func 74) #[] #[]] w fun e w'=>∃t:ByteArray,e=.returned (.string t)∧Hid (t.data.toList=s.data.toList.take (Lex.runLen Lex.nameB s.data.toList))∧t.size=Lex.runLen Lex.nameB s.data.toList∧t.size≤s.size∧w'=w:=
 (run_name s w hs).mono fun _ _ ⟨h1,h2⟩=>⟨_,h1,cut_list s _,cut_size s _ (by rw[←Lex.len_of];exact Lex.runLen_le _ _),cut_le s _,h2⟩
theorem run_digit_t (s:ByteArray)(w:World)(hs:s.size≤100000):
 Calls Tryz.prog 73 #[.string s,.func (.func 109) #[] #[]] w fun e w'=>∃t:ByteArray,e=.returned (.string t)∧Hid (t.data.toList=s.data.toList.take (Lex.runLen Lex.digitB s.data.toList))∧t.size=Lex.runLen Lex.digitB s.data.toList∧t.size≤s.size∧w'=w:=
 (run_digit s w hs).mono fun _ _ ⟨h1,h2⟩=>⟨_,h1,cut_list s _,cut_size s _ (by rw[←Lex.len_of];exact Lex.runLen_le _ _),cut_le s _,h2⟩
theorem letters_any (s:ByteArray)(w:World)(hs:s.size≤100000):
 Calls Tryz.prog 137 #[.string s] w fun e w'=>e=Lex.Tri (Lex.lettersF s.data.toList)∧w'=w:=by
 by_cases h:12<s.size
 ·have H:Hid (Lex.lettersF s.data.toList=(0,[],2)):=Lex.letters_many h
  go_enter Tryz.func137,Tryz.ntmps137
  go_wp2
  go_ret3
  exact⟨Lex.tri_no H.out,rfl⟩
 ·cases hw:Lex.wordB s.toList
  ·have H:Hid (Lex.lettersF s.data.toList=(1,s.data.toList,0)):=Lex.letters_name h hw
   go_enter Tryz.func137,Tryz.ntmps137
   go_wp2_with (go_at_call 75;refine(word_any _ _).mono ?_;rintro e w' ⟨rfl,rfl⟩)
   go_ret3
   exact⟨Lex.tri_yes H.out,rfl⟩
  ·have H:Hid (Lex.lettersF s.data.toList=(3,s.data.toList,0)):=Lex.letters_word h hw
   go_enter Tryz.func137,Tryz.ntmps137
   go_wp2_with (go_at_call 75;refine(word_any _ _).mono ?_;rintro e w' ⟨rfl,rfl⟩)
   go_ret3
   exact⟨Lex.tri_yes H.out,rfl⟩
theorem digits_any (s:ByteArray)(w:World)(h0:0<s.size)(hs:s.size≤100000):
 Calls Tryz.prog 138 #[.string s] w fun e w'=>e=Lex.Tri (Lex.digitsF s.data.toList)∧w'=w:=by
 by_cases h9:9<s.size
 ·have H:Hid (Lex.digitsF s.data.toList=(0,[],3)):=Lex.digits_many h9
  have e9:(9:Int)<(s.size:Int):=by omega
  go_enter Tryz.func138,Tryz.ntmps138
  go_wp2
  go_ret3
  exact⟨Lex.tri_no H.out,rfl⟩
 ·have d9:decide ((9:Int)<(s.size:Int))=false:=by simp;omega
  by_cases h1:1<s.size
  ·have e1:(1:Int)<(s.size:Int):=by omega
   cases hc:(((s[0].toNat:Nat):Int)==48)
   ·have H:Hid (Lex.digitsF s.data.toList=(2,s.data.toList,0)):=Lex.digits_other h9 h1 hc
    go_enter Tryz.func138,Tryz.ntmps138
    go_wp2
    go_ret3
    exact⟨Lex.tri_yes H.out,rfl⟩
   ·have H:Hid (Lex.digitsF s.data.toList=(0,[],3)):=Lex.digits_nought h1 hc
    go_enter Tryz.func138,Tryz.ntmps138
    go_wp2
    go_ret3
    exact⟨Lex.tri_no H.out,rfl⟩
  ·have H:Hid (Lex.digitsF s.data.toList=(2,s.data.toList,0)):=Lex.digits_one h1
   have d1:decide ((1:Int)<(s.size:Int))=false:=by simp;omega
   go_enter Tryz.func138,Tryz.ntmps138
   go_wp2
   go_ret3
   exact⟨Lex.tri_yes H.out,rfl⟩
theorem tri_open {r:Int×List UInt8×Int}{w:World}{e:Ending}{w':World}(h:e=Lex.Tri r∧w'=w):
 ∃(k:Int) (t:ByteArray) (c:Int),e=.returned (.tuple #[.int .i64 k,.string t,.int .i64 c])∧Hid (r=(k,t.data.toList,c))∧w'=w:=
 ⟨r.1,⟨r.2.1.toArray⟩,r.2.2,h.1,show _=_ by simp,h.2⟩
theorem tri_shut {r:Int×List UInt8×Int}{k c:Int}{t:ByteArray}(h:r=(k,t.data.toList,c)):Ending.returned (.tuple #[.int .i64 k,.string t,.int .i64 c])=Lex.Tri r:=by rw[h];rfl
theorem sign_t (s:ByteArray)(w:World)(h0:0<s.size)(hs:s.size≤100000):
 Calls Tryz.prog 139 #[.string s] w fun e w'=>∃t:ByteArray,e=.returned (.string t)∧Hid (t.data.toList=Lex.signF s.data.toList)∧t.toList.isEmpty=(Lex.signF s.data.toList).isEmpty∧w'=w:=
 (sign_any s w h0 hs).mono fun _ _ ⟨h1,h2⟩=>⟨_,h1,show _=_ by simp,by simp,h2⟩
theorem first_any (s:ByteArray)(w:World)(h0:0<s.size)(hs:s.size≤100000):
 Calls Tryz.prog 99 #[.string s] w fun e w'=>e=Lex.Tri (Lex.firstF s.data.toList)∧w'=w:=by
 have hc0:=Lex.c0_of s h0
 cases ha:Lex.alphaB ((s[0].toNat:Nat):Int)
 ·cases hd:Lex.digitB ((s[0].toNat:Nat):Int)
  ·cases he:(Lex.signF s.data.toList).isEmpty
   ·have H:Hid (Lex.firstF s.data.toList=(4,Lex.signF s.data.toList,0)):=Lex.first_sign (by rw[hc0];exact ha) (by rw[hc0];exact hd) (by simpa using he)
    clear hc0
    go_enter Tryz.func99,Tryz.ntmps99
    go_wp2_with (first |(go_at_call 72;refine(alpha_any _ _).mono ?_;rintro e w' ⟨rfl,rfl⟩)|(go_at_call 109;refine(digit_any _ _).mono ?_;rintro e w' ⟨rfl,rfl⟩)|(go_at_call 139;refine(sign_t _ _ h0 hs).mono ?_;rintro e w' ⟨t,rfl,HT,hq,rfl⟩))
    go_ret3
    exact⟨tri_shut (by rw[H.out,HT.out]),rfl⟩
   ·have H:Hid (Lex.firstF s.data.toList=(0,[],1)):=Lex.first_none (by rw[hc0];exact ha) (by rw[hc0];exact hd) (by simpa using he)
    clear hc0
    go_enter Tryz.func99,Tryz.ntmps99
    go_wp2_with (first |(go_at_call 72;refine(alpha_any _ _).mono ?_;rintro e w' ⟨rfl,rfl⟩)|(go_at_call 109;refine(digit_any _ _).mono ?_;rintro e w' ⟨rfl,rfl⟩)|(go_at_call 139;refine(sign_t _ _ h0 hs).mono ?_;rintro e w' ⟨t,rfl,HT,hq,rfl⟩))
    go_ret3
    exact⟨Lex.tri_no H.out,rfl⟩
  ·have H:Hid (Lex.firstF s.data.toList=Lex.digitsF (s.data.toList.take (Lex.runLen Lex.digitB s.data.toList))):=Lex.first_digit (by rw[hc0];exact ha) (by rw[hc0];exact hd)
   have hr:=Lex.run_pos Lex.digitB s h0 hd
   clear hc0
   go_enter Tryz.func99,Tryz.ntmps99
   go_wp2_with (first |(go_at_call 72;refine(alpha_any _ _).mono ?_;rintro e w' ⟨rfl,rfl⟩)|(go_at_call 109;refine(digit_any _ _).mono ?_;rintro e w' ⟨rfl,rfl⟩)|(go_at_call 73;refine(run_digit_t _ _ hs).mono ?_;rintro e w' ⟨t,rfl,HT,hq,hl,rfl⟩)|(go_at_call 138;refine Calls.mono (digits_any _ _ (by omega) (by omega)) ?_;intro e w' hh;obtain⟨k,t2,c,rfl,HR,rfl⟩:=tri_open hh))
   go_ret3
   exact⟨tri_shut (by rw[H.out,←HT.out];exact HR.out),rfl⟩
 ·have H:Hid (Lex.firstF s.data.toList=Lex.lettersF (s.data.toList.take (Lex.runLen Lex.nameB s.data.toList))):=Lex.first_alpha (by rw[hc0];exact ha)
  clear hc0
  go_enter Tryz.func99,Tryz.ntmps99
  go_wp2_with (first |(go_at_call 72;refine(alpha_any _ _).mono ?_;rintro e w' ⟨rfl,rfl⟩)|(go_at_call 109;refine(digit_any _ _).mono ?_;rintro e w' ⟨rfl,rfl⟩)|(go_at_call 73;refine(run_name_t _ _ hs).mono ?_;rintro e w' ⟨t,rfl,HT,hq,hl,rfl⟩)|(go_at_call 137;refine Calls.mono (letters_any _ _ (by omega)) ?_;intro e w' hh;obtain⟨k,t2,c,rfl,HR,rfl⟩:=tri_open hh))
  go_ret3
  exact⟨tri_shut (by rw[H.out,←HT.out];exact HR.out),rfl⟩
theorem gapH_start (s:ByteArray):Hid (Lex.gapF false s.data.toList=0+Lex.gapF false (s.data.toList.drop 0)):=by show _=_;simp
theorem gapH_blank (s:ByteArray)(k:Nat)(h:k<s.size)(hb:Lex.blankB ((s[k].toNat:Nat):Int)=true)(H:Hid (Lex.gapF false s.data.toList=k+Lex.gapF false (s.data.toList.drop k))):
 Hid (Lex.gapF false s.data.toList=(k+1)+Lex.gapF false (s.data.toList.drop (k+1))):=by
 have:=Lex.gap_blank s.data.toList k (by simpa using h) hb
 have:=H.out;show _=_;omega
theorem gapH_hash (s:ByteArray)(k:Nat)(h:k<s.size)(hb:Lex.blankB ((s[k].toNat:Nat):Int)=false)(hc:(((s[k].toNat:Nat):Int)==35)=true)(n:Nat)(hn:n=Lex.runLen Lex.lineB (s.extract k s.size).data.toList)(H:Hid (Lex.gapF false s.data.toList=k+Lex.gapF false (s.data.toList.drop k))):
 0<n∧k+n≤s.size∧Hid (Lex.gapF false s.data.toList=(k+n)+Lex.gapF false (s.data.toList.drop (k+n))):=by
 have hl:k<s.data.toList.length:=by simpa using h
 have h1:=Lex.gap_hash s.data.toList k hl hb hc
 have h2:=H.out
 rw[Lex.tail_list] at hn
 subst hn
 have h3:=Lex.runLen_le Lex.lineB (s.data.toList.drop k)
 rw[List.length_drop,Lex.len_of] at h3
 refine⟨?_,by omega,show _=_ by omega⟩
 rw[List.drop_eq_getElem_cons hl]
 have e:Lex.lineB ((s.data.toList[k].toNat:Nat):Int)=true:=by
  rw[show((s.data.toList[k].toNat:Nat):Int)=35 from eq_of_beq hc];rfl
 show 0<if Lex.lineB ((s.data.toList[k].toNat:Nat):Int)=true then _ else 0
 rw[if_pos e];omega
theorem gapH_stop (s:ByteArray)(k:Nat)(h:k<s.size)(hb:Lex.blankB ((s[k].toNat:Nat):Int)=false)(hc:(((s[k].toNat:Nat):Int)==35)=false)(H:Hid (Lex.gapF false s.data.toList=k+Lex.gapF false (s.data.toList.drop k))):Hid (Lex.gapF false s.data.toList=k):=by
 have:=Lex.gap_stop s.data.toList k (by simpa using h) hb hc
 have:=H.out;show _=_;omega
theorem gapH_end (s:ByteArray)(k:Nat)(h:s.size≤k)(H:Hid (Lex.gapF false s.data.toList=k+Lex.gapF false (s.data.toList.drop k))):Hid (Lex.gapF false s.data.toList=k):=by
 have:=Lex.gap_end s.data.toList k (by simpa using h)
 have:=H.out;show _=_;omega
theorem ret_nat {a b:Nat}(h:a=b):Ending.returned (.int .i64 (a:Int))=.returned (.int .i64 (b:Int)):=by rw[h]
theorem gap_any (s:ByteArray)(w:World)(hs:s.size≤100000):
 Calls Tryz.prog 98 #[.string s] w fun e w'=>e=.returned (.int .i64 (Lex.gapF false s.data.toList:Nat))∧w'=w:=by
 go_enter Tryz.func98,Tryz.ntmps98
 go_wp2
 go_loop [3] (fun i=>∃k:Nat,k≤s.size∧i=.int .i64 k∧Hid (Lex.gapF false s.data.toList=k+Lex.gapF false (s.data.toList.drop k))) (fun i=>s.size - (intOf i).toNat)
 case atStart=>exact⟨0,Nat.zero_le _,rfl,gapH_start s⟩
 case round=>
  obtain⟨k,hk,rfl,H⟩:=hrel
  by_cases hlt:k<s.size
  ·cases hb:Lex.blankB ((s[k].toNat:Nat):Int)
   ·cases hc:(((s[k].toNat:Nat):Int)==35)
    ·have HF:=gapH_stop s k hlt hb hc H
     clear H
     go_wp2_with (go_at_call 135;refine(blank_any _ _).mono ?_;rintro e w' ⟨rfl,rfl⟩)
     go_ret
     exact⟨ret_nat HF.out.symm,rfl⟩
    ·have hsz:(s.extract k s.size).size≤100000:=by rw[←Lex.len_of,Lex.tail_list,List.length_drop,Lex.len_of];omega
     obtain⟨n,hn⟩:∃n,n=Lex.runLen Lex.lineB (s.extract k s.size).data.toList:=⟨_,rfl⟩
     obtain⟨hp,hle,HT⟩:=gapH_hash s k hlt hb hc n hn H
     have HN:Hid (n=Lex.runLen Lex.lineB (s.extract k s.size).data.toList):=hn
     clear H hn
     go_wp2_with (first |(go_at_call 135;refine(blank_any _ _).mono ?_;rintro e w' ⟨rfl,rfl⟩)|(go_at_call 73;refine(run_line_t _ _ hsz).mono ?_;rintro e w' ⟨t,rfl,_,hq,hl,rfl⟩;rw[←HN.out] at hq;clear hl))
     go_round
     case rel=>exact⟨k+n,by omega,by go_num,HT⟩
     case measure=>simp[intOf];omega
   ·have HT:=gapH_blank s k hlt hb H
    clear H
    go_wp2_with (go_at_call 135;refine(blank_any _ _).mono ?_;rintro e w' ⟨rfl,rfl⟩)
    go_round
    case rel=>exact⟨k+1,by omega,by go_num,HT⟩
    case measure=>simp[intOf];omega
  ·have HF:=gapH_end s k (by omega) H
   clear H
   go_wp2
   go_ret
   exact⟨ret_nat HF.out.symm,rfl⟩
theorem gap_at (s:ByteArray)(p g:Nat)(w:World)(hs:s.size≤4000)(hg:Hid (Lex.gapF false (s.data.toList.drop p)=g)):
 Calls Tryz.prog 98 #[.string (s.extract p s.size)] w fun e w'=>e=.returned (.int .i64 (g:Int))∧w'=w:=by
 have h:=gap_any (s.extract p s.size) w (by rw[←Lex.len_of,Lex.tail_list,List.length_drop,Lex.len_of];omega)
 rw[Lex.tail_list,hg.out] at h
 exact h
structure Moved (w wc:World)(ba q:Nat):Prop where
 grown:w.grownBy wc (some ba)
 cellA:wc.heap[ba]? =some (.cells #[.int .i64 (q:Int)] 3 (0,0))
 res:wc.heap[w.heap.size]? =some (.cells #[.int .i64 0,.int .i64 0,.string ⟨#[]⟩] 106 (0,0))
theorem wrap_nat (n m:Nat)(h:n+m≤100000):IntKind.i64.wrap ((n:Int)+(m:Int))=((n+m:Nat):Int):=by rw[IntKind.wrap_i64];omega
theorem moved_of {w:World}{ba p g:Nat}(hA:w.heap[ba]? =some (.cells #[.int .i64 (p:Int)] 3 (0,0)))(hle:p+g≤4000):
 Moved w ((w.setCell ⟨ba,0,none⟩ (.int .i64 (IntKind.i64.wrap ((p:Int)+(g:Int))))).alloc (.cells #[.int .i64 0,.int .i64 0,.string ⟨#[]⟩] 106)).drew ba (p+g):=by
 rw[wrap_nat p g (by omega)]
 refine⟨grown_drew (grown_alloc (grown_set (grown_refl _ _) rfl _) _),heap_past_alloc (one_setCell hA),heap_at_alloc _ _ _ (by simp[World.setCell])⟩
theorem ended {w wc:World}{ba q:Nat}(h:Moved w wc ba q)(lA:ba<w.heap.size)(v0 v1 v2:Value)(o:Obj):
 w.grownBy ((((wc.setCell ⟨w.heap.size,0,none⟩ v0).setCell ⟨w.heap.size,1,none⟩ v1).setCell ⟨w.heap.size,2,none⟩ v2).alloc o) (some ba)∧
 ((((wc.setCell ⟨w.heap.size,0,none⟩ v0).setCell ⟨w.heap.size,1,none⟩ v1).setCell ⟨w.heap.size,2,none⟩ v2).alloc o).heap[ba]? =some (.cells #[.int .i64 (q:Int)] 3 (0,0)):=
 have hne:ba≠w.heap.size:=by omega
 ⟨grown_alloc (grown_setNew (grown_setNew (grown_setNew h.grown (Nat.le_refl _) _) (Nat.le_refl _) _) (Nat.le_refl _) _) _,heap_past_alloc (heap_past_set (heap_past_set (heap_past_set h.cellA hne) hne) hne)⟩
structure Cloned (w wc w1:World)(ba:Nat)(q N:Int):Prop where
 grown:w.grownBy w1 (some ba)
 cellA:w1.heap[ba]? =some (.cells #[.int .i64 N] 3 (0,0))
 res:w1.heap[w.heap.size]? =some (.cells #[.int .i64 0,.int .i64 0,.string ⟨#[]⟩] 106 (0,0))
 tok:w1.heap[wc.heap.size]? =some (.cells #[.int .i64 0,.int .i64 q,.string ⟨#[]⟩] 106 (0,0))
 lt:w.heap.size<wc.heap.size
theorem cloned {w wc w1:World}{ba q':Nat}{q N:Int}(h:Moved w wc ba q')(lA:ba<w.heap.size)
 (hb:Below ((wc.setCell ⟨ba,0,none⟩ (.int .i64 N)).alloc (.cells #[.int .i64 0,.int .i64 q,.string ⟨#[]⟩] 106)).heap.size ((wc.setCell ⟨ba,0,none⟩ (.int .i64 N)).alloc (.cells #[.int .i64 0,.int .i64 q,.string ⟨#[]⟩] 106)) w1):Cloned w wc w1 ba q N:=by
 have hz:((wc.setCell ⟨ba,0,none⟩ (.int .i64 N)).alloc (.cells #[.int .i64 0,.int .i64 q,.string ⟨#[]⟩] 106)).heap.size=wc.heap.size+1:=by simp[World.setCell]
 have lR:=lt_of_block h.res
 have lB:=lt_of_block h.cellA
 have hk:∀b,b<wc.heap.size+1→w1.heap[b]? =((wc.setCell ⟨ba,0,none⟩ (.int .i64 N)).alloc (.cells #[.int .i64 0,.int .i64 q,.string ⟨#[]⟩] 106)).heap[b]? :=fun b hlt=>hb.block b (by rw[hz];exact hlt)
 refine⟨grown_below (grown_alloc (grown_set h.grown rfl _) _) hb,(hk ba (by omega)).trans (heap_past_alloc (one_setCell h.cellA)),(hk w.heap.size (by omega)).trans (heap_past_alloc (heap_past_set h.res (by show w.heap.size≠ba;omega))),(hk wc.heap.size (by omega)).trans (heap_at_alloc _ _ _ (by simp[World.setCell])),lR⟩
theorem ended_tok {w wc w1:World}{ba:Nat}{q N:Int}(h:Cloned w wc w1 ba q N)(lA:ba<w.heap.size)(a0 a2 v0 v1 v2:Value):
 w.grownBy (((((w1.setCell ⟨wc.heap.size,0,none⟩ a0).setCell ⟨wc.heap.size,2,none⟩ a2).setCell ⟨w.heap.size,0,none⟩ v0).setCell ⟨w.heap.size,1,none⟩ v1).setCell ⟨w.heap.size,2,none⟩ v2) (some ba)∧
 (((((w1.setCell ⟨wc.heap.size,0,none⟩ a0).setCell ⟨wc.heap.size,2,none⟩ a2).setCell ⟨w.heap.size,0,none⟩ v0).setCell ⟨w.heap.size,1,none⟩ v1).setCell ⟨w.heap.size,2,none⟩ v2).heap[ba]? =some (.cells #[.int .i64 N] 3 (0,0)):=
 have hne:ba≠w.heap.size:=by omega
 have hnc:ba≠wc.heap.size:=by have:=h.lt;omega
 have hle:w.heap.size≤wc.heap.size:=Nat.le_of_lt h.lt
 ⟨grown_setNew (grown_setNew (grown_setNew (grown_setNew (grown_setNew h.grown hle _) hle _) (Nat.le_refl _) _) (Nat.le_refl _) _) (Nat.le_refl _) _,heap_past_set (heap_past_set (heap_past_set (heap_past_set (heap_past_set h.cellA hnc) hnc) hne) hne) hne⟩
theorem first_at (s:ByteArray)(q:Nat)(k c:Int)(t:ByteArray)(w:World)(hs:s.size≤4000)(hq:q<s.size)(hf:Hid (Lex.firstF (s.data.toList.drop q)=(k,t.data.toList,c))):
 Calls Tryz.prog 99 #[.string (s.extract q s.size)] w fun e w'=>e=.returned (.tuple #[.int .i64 k,.string t,.int .i64 c])∧w'=w:=by
 have hz:(s.extract q s.size).size=s.size - q:=by rw[←Lex.len_of,Lex.tail_list,List.length_drop,Lex.len_of]
 have h:=first_any (s.extract q s.size) w (by omega) (by omega)
 rw[Lex.tail_list,hf.out] at h
 exact h
theorem clone_any (s:ByteArray)(w:World)(hs:s.size≤4000):
 Calls Tryz.prog 100 #[.string s] w fun e w'=>e=.returned (.string s)∧Below w.heap.size w w':=by
 go_enter Tryz.func100,Tryz.ntmps100
 go_wp2_with (go_at_call 140;refine(Tryz.stringslite_Clone _ _ (by omega)).mono ?_;rintro e w' ⟨rfl,hb⟩)
 go_ret
 exact⟨rfl,hb⟩
theorem next_any (s:ByteArray)(p ba bs:Nat)(w:World)(hs:s.size≤4000)(hp:p≤s.size)
 (hA:w.heap[ba]? =some (.cells #[.int .i64 (p:Int)] 3 (0,0))) (hS:w.heap[bs]? =some (.cells #[.string s] 9 (0,0))):
 Calls Tryz.prog 97 #[.pointer (some ⟨ba,0,none⟩),.pointer (some ⟨bs,0,none⟩)] w fun e w'=>∃(k:Int) (q:Nat) (t:ByteArray) (c:Int) (n:Nat),e=.returned (.tuple #[.agg #[.int .i64 k,.int .i64 (q:Int),.string t],.int .i64 c])∧Hid (Lex.stepF s.data.toList p=(k,q,t.data.toList,c,n))∧w.grownBy w' (some ba)∧w'.heap[ba]? =some (.cells #[.int .i64 (n:Int)] 3 (0,0))∧q≤s.size∧n≤s.size∧(k≠0→p<n):=by
 have cA:=cell_of_one hA
 have cS:=cell_of_one hS
 have fA:=free_of_one hA
 have lA:=lt_of_block hA
 have lS:=lt_of_block hS
 have hne:ba≠bs:=by rintro rfl;rw[hA] at hS;simp at hS
 obtain⟨g,hg⟩:∃g,Lex.gapF false (s.data.toList.drop p)=g:=⟨_,rfl⟩
 have hle:=Lex.gap_end_le s.data.toList p (by rw[Lex.len_of];exact hp)
 rw[Lex.len_of,hg] at hle
 have HG:Hid (Lex.gapF false (s.data.toList.drop p)=g):=hg
 have HA:Hid (w.heap[ba]? =some (.cells #[.int .i64 (p:Int)] 3 (0,0))):=hA
 have HS:Hid (w.heap[bs]? =some (.cells #[.string s] 9 (0,0))):=hS
 clear hg hA hS
 go_enter Tryz.func97,Tryz.ntmps97
 go_wp2
 go_cut [] (fun wc=>Moved w wc ba (p+g))
 case first=>
  go_region_with (go_at_call 98;refine(gap_at s p g _ hs HG).mono ?_;rintro e w' ⟨rfl,rfl⟩)
  all_goals (try go_wp2_with fail)
  all_goals go_meet
  all_goals exact moved_of HA.out (by omega)
 case rest=>
  obtain⟨q,hq⟩:∃q,q=p+g:=⟨_,rfl⟩
  rw[←hq] at hcut hle
  have HQ:Hid (p+Lex.gapF false (s.data.toList.drop p)=q):=by show _=_;rw[HG.out];exact hq.symm
  have hpq:p≤q:=by omega
  clear hq
  have cA':=cell_of_one hcut.cellA
  have fA':=free_of_one hcut.cellA
  have lA':=lt_of_block hcut.cellA
  have lR':=lt_of_block hcut.res
  have hS':wc.heap[bs]? =some (.cells #[.string s] 9 (0,0)):=(hcut.grown.block bs lS (by simp;omega)).trans HS.out
  have cS':=cell_of_one hS'
  have lS':=lt_of_block hS'
  have r0:wc.cell? ⟨w.heap.size,0,none⟩=some (.int .i64 0):=by simp[World.cell?,hcut.res]
  have r1:wc.cell? ⟨w.heap.size,1,none⟩=some (.int .i64 0):=by simp[World.cell?,hcut.res]
  have r2:wc.cell? ⟨w.heap.size,2,none⟩=some (.string ⟨#[]⟩):=by simp[World.cell?,hcut.res]
  have z0:wc.frozen? ⟨w.heap.size,0,none⟩=false:=by simp[World.frozen?,hcut.res]
  have z1:wc.frozen? ⟨w.heap.size,1,none⟩=false:=by simp[World.frozen?,hcut.res]
  have z2:wc.frozen? ⟨w.heap.size,2,none⟩=false:=by simp[World.frozen?,hcut.res]
  have HC:Hid (Moved w wc ba q):=hcut
  clear hcut hS' cA cS fA
  by_cases hend:q=s.size
  ·have hb:((q:Int)==(s.size:Int))=true:=by simp[hend]
   have HE:Hid (q=s.size):=hend
   clear hend
   go_wp2
   have hE:=ended HC.out lA (.int .i64 0) (.int .i64 (q:Int)) (.string ⟨#[]⟩) (.cells #[.int .i64 0,.int .i64 (q:Int),.string ⟨#[]⟩] 106)
   exact bodyPost_ret (v:=.tuple #[.agg #[.int .i64 0,.int .i64 (q:Int),.string ⟨#[]⟩],.int .i64 0]) (by simp[results,Tryz.results97,go_sem,lR',r0,r1,r2]) rfl ⟨0,q,⟨#[]⟩,0,q,rfl,Lex.step_end HQ.out (by rw[Lex.len_of];exact HE.out),hE.1,hE.2,hle,hle,fun h=>absurd rfl h⟩
  ·have hb:((q:Int)==(s.size:Int))=false:=by simp;omega
   have hlt:q<s.size:=by omega
   obtain⟨k,t,c,hf⟩:∃(k:Int) (t:ByteArray) (c:Int),Lex.firstF (s.data.toList.drop q)=(k,t.data.toList,c):=⟨(Lex.firstF (s.data.toList.drop q)).1,⟨(Lex.firstF (s.data.toList.drop q)).2.1.toArray⟩,(Lex.firstF (s.data.toList.drop q)).2.2,by simp⟩
   have HF:Hid (Lex.firstF (s.data.toList.drop q)=(k,t.data.toList,c)):=hf
   clear hf hend
   by_cases hc:c=0
   ·subst hc
    have hok:=Lex.first_ok HF.out (by intro h;have:=congrArg List.length h;rw[List.length_drop,Lex.len_of] at this;simp at this;omega)
    have htl:t.size≤s.size - q:=by have:=hok.2.2.2;rwa [List.length_drop,Lex.len_of,Lex.len_of] at this
    have htp:0<t.size:=by have:=hok.2.1;rwa [Lex.len_of] at this
    have HK:Hid (k≠0):=hok.1
    clear hok
    go_wp2_with (go_at_call 99;refine(first_at s q k 0 t _ hs hlt HF).mono ?_;rintro e w' ⟨rfl,rfl⟩)
    refine(clone_any t _ (by omega)).mono ?_
    rintro e w1 ⟨rfl,hb1⟩
    have HD:Hid (Cloned w wc w1 ba (q:Int) ((q:Int)+(t.size:Int))):=cloned HC.out lA hb1
    have lT:wc.heap.size<w1.heap.size:=lt_of_block HD.out.tok
    have t0:w1.cell? ⟨wc.heap.size,0,none⟩=some (.int .i64 0):=by simp[World.cell?,HD.out.tok]
    have t1:w1.cell? ⟨wc.heap.size,1,none⟩=some (.int .i64 (q:Int)):=by simp[World.cell?,HD.out.tok]
    have t2:w1.cell? ⟨wc.heap.size,2,none⟩=some (.string ⟨#[]⟩):=by simp[World.cell?,HD.out.tok]
    have y0:w1.frozen? ⟨wc.heap.size,0,none⟩=false:=by simp[World.frozen?,HD.out.tok]
    have y2:w1.frozen? ⟨wc.heap.size,2,none⟩=false:=by simp[World.frozen?,HD.out.tok]
    have s0:w1.cell? ⟨w.heap.size,0,none⟩=some (.int .i64 0):=by simp[World.cell?,HD.out.res]
    have s1:w1.cell? ⟨w.heap.size,1,none⟩=some (.int .i64 0):=by simp[World.cell?,HD.out.res]
    have s2:w1.cell? ⟨w.heap.size,2,none⟩=some (.string ⟨#[]⟩):=by simp[World.cell?,HD.out.res]
    have x0:w1.frozen? ⟨w.heap.size,0,none⟩=false:=by simp[World.frozen?,HD.out.res]
    have x1:w1.frozen? ⟨w.heap.size,1,none⟩=false:=by simp[World.frozen?,HD.out.res]
    have x2:w1.frozen? ⟨w.heap.size,2,none⟩=false:=by simp[World.frozen?,HD.out.res]
    have hdiff:wc.heap.size≠w.heap.size:=by omega
    clear hb1 r0 r1 r2 z0 z1 z2 cA' cS' fA'
    go_wp2
    have hE:=ended_tok HD.out lA (.int .i64 k) (.string t) (.int .i64 k) (.int .i64 (q:Int)) (.string t)
    exact bodyPost_ret (v:=.tuple #[.agg #[.int .i64 k,.int .i64 (q:Int),.string t],.int .i64 0]) (by simp[results,Tryz.results97,go_sem,s0,s1,s2]) rfl ⟨k,q,t,0,q+t.size,rfl,(Lex.step_tok HQ.out (by rw[Lex.len_of];omega) HF.out).trans (by rw[Lex.len_of]),hE.1,by rw[hE.2];simp,hle,by omega,fun _=>by omega⟩
   ·have hn:(c !=0)=true:=by simp[hc]
    have HN:Hid (c≠0):=hc
    clear hc
    go_wp2_with (go_at_call 99;refine(first_at s q k c t _ hs hlt HF).mono ?_;rintro e w' ⟨rfl,rfl⟩)
    have hE:=ended HC.out lA (.int .i64 0) (.int .i64 (q:Int)) (.string ⟨#[]⟩) (.cells #[.int .i64 0,.int .i64 (q:Int),.string ⟨#[]⟩] 106)
    exact bodyPost_ret (v:=.tuple #[.agg #[.int .i64 0,.int .i64 (q:Int),.string ⟨#[]⟩],.int .i64 c]) (by simp[results,Tryz.results97,go_sem,lR',r0,r1,r2]) rfl ⟨0,q,⟨#[]⟩,c,q,rfl,Lex.step_bad HQ.out (by rw[Lex.len_of];omega) HF.out HN.out,hE.1,hE.2,hle,hle,fun h=>absurd rfl h⟩
open Par (Tr Stm Prm Chn Prc Prg Po ba)
theorem Tryz.infoEv:(Tryz.prog.info? 52).map (fun i=>(i.zero,i.size,i.bytes))=some (some (.agg #[.string ⟨#[]⟩,.int .i64 0,.slice none 0 0]),3,48):=by kernel_rfl
theorem new3 (w:World)(e:TypeId){x0 x1 x2:Value}:∀j u,([x0,x1,x2]:List Value)[j]? =some u→(w.alloc (.cells #[x0,x1,x2] e)).cell? ((⟨w.heap.size,0,none⟩:Addr).add j)=some u:=by
 exact World.news_of_block (heap_at_alloc w (.cells #[x0,x1,x2] e) _ rfl)
theorem copLab0 (ao:Option Addr)(c:Nat)(w:World):Calls Tryz.prog 132 #[.slice ao 0 c] w fun x w'=>x=.returned (.slice none 0 0)∧w'=w:=by
 go_enter Tryz.func132,Tryz.ntmps132
 go_wp2
 go_loopw [8,3] (fun i o wr=>i=.int .i64 0∧o=.slice none 0 0∧wr=w) (fun _ _ _=>0)
 case atStart=>exact⟨rfl,rfl,rfl⟩
 case round=>
  obtain⟨rfl,rfl,rfl⟩:=hrel
  go_wp2
  go_ret
  exact⟨rfl,rfl⟩
theorem RS.evAdd {w w1 w2:World}{L rb pb lb fuel lc:Nat}{ev ev':Value}{g:Rr.Sg}{n:Int}{xs:List Value}{css:List (List Value)}(h:RS w L rb pb lb fuel lc ev g)(he:g.evs.length<g.steps)(hb:Below w.heap.size w w1)(hcl:css.length=g.evs.length)(h3:∀i (h:i<g.evs.length) (h':i<css.length),EvIs w1 (SB L ev) g.evs[i] css[i])(hx:EvIs w1 (fun b=>w.heap.size≤b) n xs)
 (h2:w2.ownsRow L 52 3 ev' (g.evs.length+1) (css.flatten++xs)) (hg:w1.grownBy w2 ev.ownBlock) (hv:ev'.ownBlock=ev.ownBlock∨ev'.ownBlock=some w1.heap.size) (hL:L≤w.heap.size) (hp:pb<w.heap.size):
 RS (w2.setCell ⟨rb,0,none⟩ ev') L rb pb lb fuel lc ev' {g with evs:=g.evs++[n]}∧Kr rb lb ev ev' w (w2.setCell ⟨rb,0,none⟩ ev'):=by
 have hlt:=h.cells.2.2.2.2.2.2
 obtain⟨C,k1,k2⟩:=h.lef
 have hk:∀b,b<w.heap.size→some b≠ev.ownBlock→w2.heap[b]? =w.heap[b]? :=fun b h1 h2=>(hg.block b (Nat.lt_of_lt_of_le h1 hb.size) h2).trans (hb.block b h1)
 have hs:w.heap.size≤w2.heap.size:=Nat.le_trans hb.size hg.size
 have hset:∀b,b≠rb→(w2.setCell ⟨rb,0,none⟩ ev').heap[b]? =w2.heap[b]? :=fun b hb=>Below.heap_setCell _ _ _ _ hb
 have hlow:∀b,b<L→w2.heap[b]? =w.heap[b]? :=fun b hb=>hk b (by omega) (fun e=>by have:=(h.evl b e.symm).1;omega)
 have hrl:=h.rl
 have hll:=h.ll
 have hlb:=lt_of_block k1
 have hnb:∀k,ev'.ownBlock=some k→k≠rb∧k≠lb∧k≠pb:=fun k e=>by
  rcases hv with hv | hv
  ·exact h.eb k (hv▸e)
  ·rw[hv] at e
   cases e
   have:=hb.size
   exact⟨by omega,by omega,by omega⟩
 refine⟨⟨?_,⟨C,?_,fun i hi=> ?_⟩,?_,h.rl,h.ll,h.ne,hnb,h.pn,by simp;omega,h.sf,h.ff,h.lf⟩,⟨⟨by simp[World.setCell];omega,fun b hb hl=>by rw[hset b hb.1];exact hk b hl hb.2.2⟩,fun k e=> ?_,(Sm.bel hb).trans ((Sm.gro hg).trans (Sm.set _ _ _))⟩⟩
 ·have:=(hk rb hlt (fun e=>(h.eb rb e.symm).1 rfl)).trans h.blk
  simp[World.setCell,Array.getElem?_modify,this]
 ·rw[hset lb (Ne.symm h.ne),hk lb hlb (fun e=>(h.eb lb e.symm).2.1 rfl)]
  exact k1
 ·obtain⟨x,c,e1,e2,e3⟩:=k2 i hi
  exact⟨x,c,e1,e2,e3.keeps fun b hb=>by rw[hset b (by omega)];exact hlow b hb⟩
 ·obtain⟨css',j1,j2,j3⟩:=(OwnL.add isElEv (fun k e=>(h.evl k e).2) hcl h3 hx hL h2 hg hv).ex
  exact⟨css',ownsRow_setCell_other j1 (fun e=>(hnb rb e).1 rfl) _,j2,j3⟩
 ·rcases hv with hv | hv
  ·exact .inl (hv▸e)
  ·rw[hv] at e
   cases e
   exact .inr hb.size
theorem eventC {w:World}{L rb pb lb fuel lc:Nat}{ev:Value}{g:Rr.Sg}(hR:RS w L rb pb lb fuel lc ev g)(he:g.evs.length<g.steps)(hL:L≤w.heap.size)(hp:pb<w.heap.size)(nm:ByteArray)(hnm:nm.size≤4000)(n:Int)(ao:Option Addr)(c:Nat):
 Calls Tryz.prog 94 #[.pointer (some ⟨rb,0,none⟩),.string nm,.int .i64 n,.slice ao 0 c] w fun x w'=>x=.returned (.tuple #[])∧∃ev',RS w' L rb pb lb fuel lc ev' {g with evs:=g.evs++[n]}∧Kr rb lb ev ev' w w':=by
 obtain⟨z0,_,_,_,_,hz,hlt⟩:=hR.cells
 have zf:=hz 0
 have HR:=hidq hR
 have HL:=hidq hL
 have HP:=hidq hp
 have HE:=hidq he
 have hec:g.evs.length≤3000:=by have:=hR.sf;have:=hR.ff;omega
 obtain⟨eo,ec,hev⟩:=hR.evs.slice
 obtain⟨m,hm⟩:∃m,m=g.evs.length:=⟨_,rfl⟩
 have HM:=hidq hm
 rw[←hm] at hev hec
 subst hev
 obtain⟨css,HO,HO2,HO3⟩:∃css:List (List Value),Hid (w.ownsRow L 52 3 (.slice eo m ec) m css.flatten)∧Hid (css.length=g.evs.length)∧Hid (∀i (h:i<g.evs.length) (h':i<css.length),EvIs w (SB L (.slice eo m ec)) g.evs[i] css[i]):=by
  obtain⟨css,h1,h2,h3⟩:=hR.evs.ex
  exact⟨css,by rw[hm];rw[←hm] at*;exact h1,h2,h3⟩
 obtain⟨i0,hi0,hz0,hz1,hz2⟩:=info_parts Tryz.infoEv
 have HCL:Hid (∀W,Below w.heap.size w W→Calls Tryz.prog 100 #[.string nm] W fun x w'=>x=.returned (.string nm)∧Below w.heap.size w w'):=fun W hW=>(clone_any nm W hnm).mono fun x w' ⟨h1,h2⟩=>⟨h1,hW.trans (h2.mono hW.size)⟩
 have HBK:=hidq hR.blk
 clear hz hR hL hp he hm
 go_enter Tryz.func94,Tryz.ntmps94
 go_upto_region 0 with fail
 go_region_law (first
  |(go_simp
    go_at_call 100
    refine(HCL.out _ (by exact⟨rfl,rfl,rfl,Nat.le_refl _,fun _ _=>rfl⟩)).mono ?_
    rintro x w1 ⟨rfl,hb1⟩
    have HB1:=hidq hb1
    have HK1:=hidq (ku hb1 HBK.out)
    have t0:=(hb1.cell (p:=⟨rb,0,none⟩) hlt).trans z0
    have tf:=fz HK1.out 0
    have hl1:=lt_of_block HK1.out
    clear hb1
    dsimp only)
  |(go_simp
    go_at_call 132
    refine(copLab0 _ _ _).mono ?_
    rintro x w3 ⟨rfl,hw3⟩
    have hw4:=hw3.symm
    subst hw4
    clear hw3
    dsimp only)
  |(refine step_append_lies _ rfl _ _ 41 rfl L 52 i0 (.agg #[.string ⟨#[]⟩,.int .i64 0,.slice none 0 0]) 3 48 Tryz.underlying41 hi0 hz0 hz1 hz2 rfl (by decide) _ _ _ rfl (World.ownsRow.alloc (own_kept2 HO.out fun k e=>HB1.out.block k (HO.out.lt k e).2) _) ⟨w1.heap.size,0,none⟩ 1 1 [.string nm,.int .i64 n,.slice none 0 0] rfl rfl (new3 _ _) (by intro u hu;simp only[List.mem_cons,List.not_mem_nil,or_false] at hu;rcases hu with rfl | rfl | rfl<;>rfl) (by decide) (by unfold maxLen;omega) (by omega) (by have:=HL.out;have:=HB1.out.size;simp;omega) _ rfl ?_
    intro g8 cap8 w8 hown8 hgrow8 hat8 hlt8
    have hbm:Below w.heap.size w (w1.alloc (.cells #[.string nm,.int .i64 n,.slice none 0 0] 52)):=HB1.out.alloc HB1.out.size _
    have hgr:(w1.alloc (.cells #[.string nm,.int .i64 n,.slice none 0 0] 52)).grownBy w8 (.slice eo m ec:Value).ownBlock:=hgrow8
    have hat:(.slice (some ⟨g8,0,none⟩) (m+1) cap8:Value).ownBlock=(.slice eo m ec:Value).ownBlock∨(.slice (some ⟨g8,0,none⟩) (m+1) cap8:Value).ownBlock=some (w1.alloc (.cells #[.string nm,.int .i64 n,.slice none 0 0] 52)).heap.size:=hat8.imp (fun h=>h.symm) (fun h=>congrArg some h)
    have HFIN:=hidq (HR.out.evAdd (n:=n) (xs:=[.string nm,.int .i64 n,.slice none 0 0]) (ev':=.slice (some ⟨g8,0,none⟩) (m+1) cap8) HE.out hbm HO2.out HO3.out ⟨nm,.slice none 0 0,rfl,rfl⟩ (by rw[←HM.out];exact hown8) hgr hat HL.out HP.out)
    have hX8:=(hgr.block rb (by simp;omega) (fun e=>(HR.out.eb rb e.symm).1 rfl)).trans (heap_past_alloc HK1.out)
    have y0:w8.cell? ⟨rb,0,none⟩=some (.slice eo m ec):=cl hX8 0 rfl
    have y8:=fz hX8 0
    have l9:=lt_of_block hX8
    clear hbm hown8 hgrow8 hat8 hX8 hgr hat))
 all_goals go_wp2
 all_goals go_end0
 all_goals exact⟨rfl,_,HFIN.out⟩
theorem fFn0 (x y:Value)(w:World):(Instr.field 240 (.agg #[x,y]) 0).run Tryz.prog w=.ok x w:=by kernel_rfl
theorem letK {w0 w:World}{L kb pb:Nat}{X:Nat→Prop}{P:Prg}{vs:Sk.Vs}{f:Nat}{u:Bool}{N m b off:Nat}{cv av nv qv:Value}{k p:Int}{s o:ByteArray}{d:Bool}{l:List Po}{e:Tr}{a b2:List Stm}{t:Int}(hB:Lb w0 L pb P cv av nv qv)(h:Lk w0 w L kb pb X P vs vs f u N)(hx:AtS w0 L b off (.mk k p s o d l e a b2))(hl:checkL P.chiefs P.acts l=0)(ht:Sk.typ P vs m e=some t)(hn:Sk.lastV vs s=none)(hf:vs.length<900)(hN:N+Sk.kst m+1<1000000000):
 Calls Tryz.prog 156 #[.pointer (some ⟨kb,0,none⟩),.pointer (some ⟨b,off,none⟩)] w fun r w'=>r=.returned (.tuple #[])∧LkP w0 w L kb pb X P (vs++[(s,t)]) f u (N+Sk.kst m+1) w':=by
 obtain⟨hsz,_,hxe,lv,av',bv',hlv,_,_,hcell⟩:=st_parts hx
 obtain⟨lo,ll,lc,rfl⟩:∃lo ll lc,lv=.slice lo ll lc:=by obtain⟨lo,lc,e⟩:=hlv.val;exact⟨lo,_,lc,e⟩
 have HLA:Hid (∀W,Below w.heap.size w W→Calls Tryz.prog 121 #[.pointer (some ⟨kb,0,none⟩),.slice lo ll lc,.int .i64 p] W fun x w'=>x=.returned (.tuple #[])∧Hid (Lk w0 w' L kb pb X P vs vs f u N∧Kx X w w')):=fun W hW=>by
  have h1:=h.later hW
  refine(labelK hB h1.1 hlv hl p).mono ?_
  rintro x w' ⟨rfl,hb⟩
  have h2:=h1.1.later hb
  exact⟨rfl,h2.1,h1.2.trans h2.2⟩
 have HTY:Hid (∀W,Lk w0 W L kb pb X P vs vs f u N→Kx X w W→Calls Tryz.prog 172 #[.pointer (some ⟨kb,0,none⟩),.pointer (some ⟨b,off+6,none⟩)] W fun r w'=>r=.returned (.int .i64 t)∧Hid (Lk w0 w' L kb pb X P vs vs f u (N+Sk.kst m)∧Kx X w w')):=fun W q1 q2=>by
  refine(typ_all hB m W X vs f u N b (off+6) e t q1 hxe ht (by omega)).mono ?_
  rintro r w' ⟨rfl,q3,q4⟩
  exact⟨rfl,q3,q2.trans q4⟩
 have HFD:Hid (∀W0 W,Lk w0 W0 L kb pb X P vs vs f u (N+Sk.kst m)→Kx X w W0→Below W0.heap.size W0 W→Calls Tryz.prog 173 #[.pointer (some ⟨kb,0,none⟩),.string s] W fun r w'=>r=.returned (.agg #[.bool false,.int .i64 0])∧Hid (Lk w0 w' L kb pb X P vs vs f u (N+Sk.kst m+1)∧Kx X w w')):=fun W0 W q1 q2 q3=>by
  have h1:=q1.later q3
  have:=findK h1.1 hsz (by omega)
  rw[hn] at this
  refine this.mono ?_
  rintro r w' ⟨rfl,q4,q5⟩
  exact⟨rfl,q4,q2.trans (h1.2.trans q5)⟩
 have HC:=hidq hcell
 obtain⟨_,c1,c2,_,c5,_,_,cbl⟩:=hcell w h.bel
 have hti:=fun p w=>tellIfC 6 p w
 have ff:=fFn0
 obtain⟨i0,hi0,hz0,hz1,hz2⟩:=info_parts Tryz.infoPm
 have HF:=hidq hf
 clear h hx hB hl ht hn hlv hcell hxe hf
 go_enter Tryz.func156,Tryz.ntmps156
 go_upto_region 0 with fail
 go_region_held3 (fun W=>W.cell? ⟨b,off+1,none⟩=some (.int .i64 p)∧W.cell? ⟨b,off+5,none⟩=some (.slice lo ll lc)) (go_keep)
  (first
    |(go_at_call 121;refine(HLA.out _ (by exact⟨rfl,rfl,rfl,Nat.le_refl _,fun _ _=>rfl⟩)).mono ?_;rintro x w1 ⟨rfl,H1⟩;obtain⟨_,d1,d2,_,d5,_,_,dbl⟩:=HC.out w1 H1.out.1.bel))
 have hty:=HTY.out w1 H1.out.1 H1.out.2
 clear c1 c2 c5 cbl
 go_wp2_with fail
 refine hty.mono ?_
 rintro x w2 ⟨rfl,H2⟩
 obtain⟨_,e1,e2,_,e5,_,_,ebl⟩:=HC.out w2 H2.out.1.bel
 clear hty d1 d2 d5 dbl
 go_wp2
 go_region_held3 (fun W=>W.cell? ⟨b,off+1,none⟩=some (.int .i64 p)∧W.cell? ⟨b,off+2,none⟩=some (.string s)) (go_keep)
  (first
    |(go_at_call 173;refine(HFD.out w2 _ H2.out.1 H2.out.2 (by exact⟨rfl,rfl,rfl,Nat.le_refl _,fun _ _=>rfl⟩)).mono ?_;rintro x w3 ⟨rfl,H3⟩;obtain⟨_,g1,g2,_,_,_,_,gbl⟩:=HC.out w3 H3.out.1.bel)
    |(go_at_call 90;refine(hti _ _).mono ?_;rintro x w4 ⟨rfl,hw4⟩;have hw4':=hw4.symm;subst hw4';clear hw4))
 obtain⟨⟨vo,vc,mk,ma,mr,K,hE⟩,hkx⟩:=H3.out
 obtain⟨css,o1,o2,o3⟩:=hE.own.ex
 obtain⟨n,hnn⟩:∃n,n=vs.length:=⟨_,rfl⟩
 have z1:w3.cell? ⟨kb,1,none⟩=some (.slice vo n vc):=by rw[hnn];exact hE.cells.2.1
 have zl:=hE.cells.2.2.2.2.2.2.1
 have HO:Hid (∀W:World,W.heap=w3.heap→W.ownsRow L 85 3 (.slice vo n vc) n css.flatten):=fun W hW=>by
  rw[hnn];exact own_kept2 o1 fun k _=>by rw[hW]
 have HBK:=hidq hE.blk
 have HKO:Hid (some kb≠(.slice vo n vc:Value).ownBlock):=fun e=>by rw[hnn] at e;exact(hE.xo kb e.symm).2 rfl
 have HLW:Hid (L≤w3.heap.size):=by have:=hE.up kb hE.xk.1;show _≤_;omega
 have HFIN:Hid (∀(w8:World) (vo':Option Addr) (vc':Nat),w8.ownsRow L 85 3 (.slice vo' (n+1) vc') (n+1) (css.flatten++[.string s,.int .i64 t,.slice none 0 0])→(w3.alloc (.cells #[.string s,.int .i64 t,.slice none 0 0] 85)).grownBy w8 (.slice vo n vc:Value).ownBlock→((.slice vo' (n+1) vc':Value).ownBlock=(.slice vo n vc:Value).ownBlock∨(.slice vo' (n+1) vc':Value).ownBlock=some (w3.alloc (.cells #[.string s,.int .i64 t,.slice none 0 0] 85)).heap.size)→LkP w0 w L kb pb X P (vs++[(s,t)]) f u (N+Sk.kst m+1) (w8.setCell ⟨kb,1,none⟩ (.slice vo' (n+1) vc'))):=fun w8 vo' vc' r1 r2 r3=>by
  subst hnn
  obtain⟨X',vk,q1,q2⟩:=hE.addV HF.out ((Below.refl _ _).alloc (Nat.le_refl _) (.cells #[.string s,.int .i64 t,.slice none 0 0] 85)) o2 o3 r1 r2 r3
  exact⟨X',vk,q1,(Kl.of hkx).trans q2⟩
 have hn9:n<900:=by have:=HF.out;omega
 clear hE hkx o1 o2 o3 hnn e1 e2 e5 ebl
 go_wp2
 go_region_law (first
  |(refine step_append_lies _ rfl _ _ 83 rfl L 85 i0 (.agg #[.string ⟨#[]⟩,.int .i64 0,.slice none 0 0]) 3 48 Tryz.underlying83 hi0 hz0 hz1 hz2 rfl (by decide) _ _ _ rfl (World.ownsRow.alloc (HO.out _ rfl) _) ⟨w3.heap.size,0,none⟩ 1 1 [.string s,.int .i64 t,.slice none 0 0] rfl rfl (new3 _ _) (by intro u hu;simp only[List.mem_cons,List.not_mem_nil,or_false] at hu;rcases hu with rfl | rfl | rfl<;>rfl) (by decide) (by unfold maxLen;omega) (by omega) (by have:=HLW.out;simp;omega) _ rfl ?_
    intro g8 cap8 w8 hown8 hgrow8 hat8 hlt8
    have hgr:(w3.alloc (.cells #[.string s,.int .i64 t,.slice none 0 0] 85)).grownBy w8 (.slice vo n vc:Value).ownBlock:=⟨hgrow8.os,hgrow8.tape,hgrow8.output,hgrow8.size,fun i h1 h2=>hgrow8.block i h1 h2⟩
    have hat:(.slice (some ⟨g8,0,none⟩) (n+1) cap8:Value).ownBlock=(.slice vo n vc:Value).ownBlock∨(.slice (some ⟨g8,0,none⟩) (n+1) cap8:Value).ownBlock=some (w3.alloc (.cells #[.string s,.int .i64 t,.slice none 0 0] 85)).heap.size:=hat8.imp (fun h=>h.symm) (fun h=>congrArg some h)
    have HE8:=hidq (HFIN.out w8 (some ⟨g8,0,none⟩) cap8 hown8 hgr hat)
    have hX8:=(hgr.block kb (by simp;omega) HKO.out).trans (heap_past_alloc HBK.out)
    have y0:=cl hX8 1 rfl
    have y8:=fz hX8 1
    have l9:=lt_of_block hX8
    clear hown8 hgrow8 hat8 hX8 hgr hat))
 all_goals go_wp2
 all_goals go_end0
 all_goals exact⟨rfl,HE8.out⟩
theorem stNew {w0 w:World}{L kb pb:Nat}{X:Nat→Prop}{P:Prg}{vs vk:Sk.Vs}{f:Nat}{u:Bool}{N:Nat}(h:Lk w0 w L kb pb X P vs vk f u N):∃mk w1 X1,w1=(w.setCell ⟨kb,2,none⟩ (.map (some w.heap.size))).alloc (.map #[] 0)∧w.cell? ⟨kb,2,none⟩=some (.map (some mk))∧w.frozen? ⟨kb,2,none⟩=false∧kb<w.heap.size∧Hid (Lk w0 w1 L kb pb X1 P vs vs f u N∧Kl X X1 w w1):=by
 obtain⟨vo,vc,mk,ma,mr,K,hE⟩:=h
 have hf:=hE.fresh rfl
 exact⟨mk,_,_,rfl,hE.cells.2.2.1,hE.cells.2.2.2.2.2.2.2 2,hE.cells.2.2.2.2.2.2.1,hf.1,hf.2⟩
theorem muE {w0 w:World}{L kb pb:Nat}{X X1:Nat→Prop}{P:Prg}{vs:Sk.Vs}{f:Nat}{u:Bool}{m b off:Nat}{cv av nv qv:Value}(hB:Lb w0 L pb P cv av nv qv){e:Tr}{t:Int}(hxe:AtX w0 L b (off+6) e)(ht:Sk.typ P vs m e=some t):∀(W0 W:World) (N':Nat),Lk w0 W0 L kb pb X1 P vs vs f u N'→Kl X X1 w W0→Below W0.heap.size W0 W→N'+Sk.kst m<1000000000→Calls Tryz.prog 157 #[.pointer (some ⟨kb,0,none⟩),.pointer (some ⟨b,off+6,none⟩),.int .i64 t] W fun r w'=>r=.returned (.tuple #[])∧Hid (Lk w0 w' L kb pb X1 P vs vs f u (N'+Sk.kst m)∧Kl X X1 w w'):=by
 intro W0 W N' q1 q2 q3 q4
 have h1:=q1.later q3
 refine(mustK (typ_all hB m) h1.1 hxe ht q4).mono ?_
 rintro r w' ⟨rfl,h2,h3⟩
 exact⟨rfl,h2,q2.trans (Kl.of (h1.2.trans h3))⟩
theorem vaE {w0 w:World}{L kb pb:Nat}{X X1:Nat→Prop}{P:Prg}{vs:Sk.Vs}{f:Nat}{u:Bool}{s:ByteArray}{t:Int}(hs:s.size≤maxLen)(ht:Sk.lastV vs s=some t)(p:Int):∀(W0 W:World) (N':Nat),Lk w0 W0 L kb pb X1 P vs vs f u N'→Kl X X1 w W0→Below W0.heap.size W0 W→N'<1000000000→Calls Tryz.prog 158 #[.pointer (some ⟨kb,0,none⟩),.string s,.int .i64 p] W fun r w'=>r=.returned (.int .i64 t)∧Hid (Lk w0 w' L kb pb X1 P vs vs f u (N'+1)∧Kl X X1 w w'):=by
 intro W0 W N' q1 q2 q3 q4
 have h1:=q1.later q3
 refine(variableK h1.1 hs q4 ht p).mono ?_
 rintro r w' ⟨rfl,h2,h3⟩
 exact⟨rfl,h2,q2.trans (Kl.of (h1.2.trans h3))⟩
theorem chE {w0 w:World}{L kb pb:Nat}{X X1:Nat→Prop}{P:Prg}{vs:Sk.Vs}{f:Nat}{u:Bool}{cv av nv qv:Value}(hB:Lb w0 L pb P cv av nv qv){s:ByteArray}{io:Bool}{t:Int}(ht:Sk.findCh P.chans s io=some t)(p:Int):∀(W0 W:World) (N':Nat),Lk w0 W0 L kb pb X1 P vs vs f u N'→Kl X X1 w W0→Below W0.heap.size W0 W→Calls Tryz.prog 160 #[.pointer (some ⟨kb,0,none⟩),.string s,.bool io,.int .i64 p] W fun r w'=>r=.returned (.int .i64 t)∧Hid (Lk w0 w' L kb pb X1 P vs vs f u N'∧Kl X X1 w w'):=by
 intro W0 W N' q1 q2 q3
 have h1:=q1.later q3
 refine(channelK hB h1.1 ht p).mono ?_
 rintro r w' ⟨rfl,h2⟩
 have h3:=h1.1.later h2
 exact⟨rfl,h3.1,q2.trans (Kl.of (h1.2.trans h3.2))⟩
theorem st_set {w0 w:World}{L kb pb:Nat}{X:Nat→Prop}{P:Prg}{vs vk:Sk.Vs}{f:Nat}{u:Bool}{N m b off:Nat}{cv av nv qv:Value}{p:Int}{s o:ByteArray}{d:Bool}{l:List Po}{e:Tr}{a b2:List Stm}{t back:Int}(hB:Lb w0 L pb P cv av nv qv)(h:Lk w0 w L kb pb X P vs vk f u N)(hx:AtS w0 L b off (.mk 2 p s o d l e a b2))(hv:Sk.lastV vs s=some t)(ht:Sk.typ P vs m e=some t)(hN:N+(3+Sk.kst m)<1000000000):
 Calls Tryz.prog 126 #[.pointer (some ⟨kb,0,none⟩),.pointer (some ⟨b,off,none⟩),.int .i64 back] w fun r w'=>r=.returned (.tuple #[])∧LkP w0 w L kb pb X P vs f u (N+(3+Sk.kst m)) w':=by
 obtain⟨hsz,hoz,hxe,lv,av',bv',hlv,_,_,hcell⟩:=st_parts hx
 obtain⟨mk,w1,X1,hw1,z2,zf,zl,H1⟩:=stNew h
 have HV:=hidq (vaE (w0:=w0) (w:=w) (L:=L) (kb:=kb) (pb:=pb) (X:=X) (X1:=X1) (P:=P) (f:=f) (u:=u) hsz hv p)
 have HM:=hidq (muE (w:=w) (kb:=kb) (X:=X) (X1:=X1) (f:=f) (u:=u) hB hxe ht)
 clear hv ht
 have HC:=hidq hcell
 obtain⟨c0,c1,c2,c3,c5,c13,c14,cbl⟩:=hcell w h.bel
 have hti:=fun c p w=>tellIfC c p w
 have hmm:=@run_makeMap Tryz.prog
 clear h hx hcell hlv hB
 go_enter Tryz.func126,Tryz.ntmps126
 go_upto_region 1 with fail
 rw[←hw1]
 clear hw1 c0 c1 c2 c3 c5 c13 c14 cbl z2 zf zl
 obtain⟨d0,d1,d2,d3,d5,d13,d14,dbl⟩:=HC.out w1 H1.out.1.bel
 go_upto_region 5 with fail
 go_region_held3 (fun W=>W.cell? ⟨b,off+1,none⟩=some (.int .i64 p)∧W.cell? ⟨b,off+2,none⟩=some (.string s)) (go_keep)
  (first
    |(go_at_call 158;refine(HV.out w1 _ N H1.out.1 H1.out.2 (by exact⟨rfl,rfl,rfl,Nat.le_refl _,fun _ _=>rfl⟩) (by omega)).mono ?_;rintro x w2 ⟨rfl,H2⟩;obtain⟨_,e1,e2,e3,_,_,_,ebl⟩:=HC.out w2 H2.out.1.bel)
    |(go_at_call 157;refine(HM.out w2 _ (N+1) H2.out.1 H2.out.2 (by exact⟨rfl,rfl,rfl,Nat.le_refl _,fun _ _=>rfl⟩) (by omega)).mono ?_;rintro x w3 ⟨rfl,H3⟩;obtain⟨_,g1,g2,g3,_,_,_,gbl⟩:=HC.out w3 H3.out.1.bel))
 go_wp2
 go_end0
 exact⟨rfl,X1,vs,H3.out.1.more (by omega),H3.out.2⟩
theorem st_send {w0 w:World}{L kb pb:Nat}{X:Nat→Prop}{P:Prg}{vs vk:Sk.Vs}{f:Nat}{u:Bool}{N m b off:Nat}{cv av nv qv:Value}{p:Int}{s o:ByteArray}{d:Bool}{l:List Po}{e:Tr}{a b2:List Stm}{t back:Int}(hB:Lb w0 L pb P cv av nv qv)(h:Lk w0 w L kb pb X P vs vk f u N)(hx:AtS w0 L b off (.mk 5 p s o d l e a b2))(hv:Sk.findCh P.chans s false=some t)(ht:Sk.typ P vs m e=some t)(hN:N+(3+Sk.kst m)<1000000000):
 Calls Tryz.prog 126 #[.pointer (some ⟨kb,0,none⟩),.pointer (some ⟨b,off,none⟩),.int .i64 back] w fun r w'=>r=.returned (.tuple #[])∧LkP w0 w L kb pb X P vs f u (N+(3+Sk.kst m)) w':=by
 obtain⟨hsz,hoz,hxe,lv,av',bv',hlv,_,_,hcell⟩:=st_parts hx
 obtain⟨mk,w1,X1,hw1,z2,zf,zl,H1⟩:=stNew h
 have HV:=hidq (chE (w:=w) (kb:=kb) (X:=X) (X1:=X1) (vs:=vs) (f:=f) (u:=u) hB hv p)
 have HM:=hidq (muE (w:=w) (kb:=kb) (X:=X) (X1:=X1) (f:=f) (u:=u) hB hxe ht)
 clear hv ht
 have HC:=hidq hcell
 obtain⟨c0,c1,c2,c3,c5,c13,c14,cbl⟩:=hcell w h.bel
 have hti:=fun c p w=>tellIfC c p w
 have hmm:=@run_makeMap Tryz.prog
 clear h hx hcell hlv hB
 go_enter Tryz.func126,Tryz.ntmps126
 go_upto_region 1 with fail
 rw[←hw1]
 clear hw1 c0 c1 c2 c3 c5 c13 c14 cbl z2 zf zl
 obtain⟨d0,d1,d2,d3,d5,d13,d14,dbl⟩:=HC.out w1 H1.out.1.bel
 go_upto_region 12 with fail
 go_region_held3 (fun W=>W.cell? ⟨b,off+1,none⟩=some (.int .i64 p)∧W.cell? ⟨b,off+2,none⟩=some (.string s)) (go_keep)
  (first
    |(go_at_call 160;refine(HV.out w1 _ N H1.out.1 H1.out.2 (by exact⟨rfl,rfl,rfl,Nat.le_refl _,fun _ _=>rfl⟩)).mono ?_;rintro x w2 ⟨rfl,H2⟩;obtain⟨_,e1,e2,e3,_,_,_,ebl⟩:=HC.out w2 H2.out.1.bel)
    |(go_at_call 157;refine(HM.out w2 _ N H2.out.1 H2.out.2 (by exact⟨rfl,rfl,rfl,Nat.le_refl _,fun _ _=>rfl⟩) (by omega)).mono ?_;rintro x w3 ⟨rfl,H3⟩;obtain⟨_,g1,g2,g3,_,_,_,gbl⟩:=HC.out w3 H3.out.1.bel))
 go_wp2
 go_end0
 exact⟨rfl,X1,vs,H3.out.1.more (by omega),H3.out.2⟩
theorem st_take {w0 w:World}{L kb pb:Nat}{X:Nat→Prop}{P:Prg}{vs vk:Sk.Vs}{f:Nat}{u:Bool}{N m b off:Nat}{cv av nv qv:Value}{p:Int}{s o:ByteArray}{d:Bool}{l:List Po}{e:Tr}{a b2:List Stm}{t back:Int}(hB:Lb w0 L pb P cv av nv qv)(h:Lk w0 w L kb pb X P vs vk f u N)(hx:AtS w0 L b off (.mk 6 p s o d l e a b2))(hv:Sk.lastV vs s=some t)(ht:Sk.findCh P.chans o true=some t)(hN:N+(3+Sk.kst m)<1000000000):
 Calls Tryz.prog 126 #[.pointer (some ⟨kb,0,none⟩),.pointer (some ⟨b,off,none⟩),.int .i64 back] w fun r w'=>r=.returned (.tuple #[])∧LkP w0 w L kb pb X P vs f u (N+(3+Sk.kst m)) w':=by
 obtain⟨hsz,hoz,hxe,lv,av',bv',hlv,_,_,hcell⟩:=st_parts hx
 obtain⟨mk,w1,X1,hw1,z2,zf,zl,H1⟩:=stNew h
 have HV:=hidq (vaE (w0:=w0) (w:=w) (L:=L) (kb:=kb) (pb:=pb) (X:=X) (X1:=X1) (P:=P) (f:=f) (u:=u) hsz hv p)
 have HM:=hidq (chE (w:=w) (kb:=kb) (X:=X) (X1:=X1) (vs:=vs) (f:=f) (u:=u) hB ht p)
 have hne:(t !=t)=false:=by simp
 clear hv ht
 have HC:=hidq hcell
 obtain⟨c0,c1,c2,c3,c5,c13,c14,cbl⟩:=hcell w h.bel
 have hti:=fun c p w=>tellIfC c p w
 have hmm:=@run_makeMap Tryz.prog
 clear h hx hcell hlv hB
 go_enter Tryz.func126,Tryz.ntmps126
 go_upto_region 1 with fail
 rw[←hw1]
 clear hw1 c0 c1 c2 c3 c5 c13 c14 cbl z2 zf zl
 obtain⟨d0,d1,d2,d3,d5,d13,d14,dbl⟩:=HC.out w1 H1.out.1.bel
 go_upto_region 14 with fail
 go_region_held3 (fun W=>W.cell? ⟨b,off+1,none⟩=some (.int .i64 p)∧W.cell? ⟨b,off+2,none⟩=some (.string s)) (go_keep)
  (first
    |(go_at_call 158;refine(HV.out w1 _ N H1.out.1 H1.out.2 (by exact⟨rfl,rfl,rfl,Nat.le_refl _,fun _ _=>rfl⟩) (by omega)).mono ?_;rintro x w2 ⟨rfl,H2⟩;obtain⟨_,e1,e2,e3,_,_,_,ebl⟩:=HC.out w2 H2.out.1.bel))
 go_wp2
 go_region_held3 (fun W=>W.cell? ⟨b,off+1,none⟩=some (.int .i64 p)∧W.cell? ⟨b,off+3,none⟩=some (.string o)) (go_keep)
  (first
    |(go_at_call 160;refine(HM.out w2 _ (N+1) H2.out.1 H2.out.2 (by exact⟨rfl,rfl,rfl,Nat.le_refl _,fun _ _=>rfl⟩)).mono ?_;rintro x w3 ⟨rfl,H3⟩;obtain⟨_,g1,g2,g3,_,_,_,gbl⟩:=HC.out w3 H3.out.1.bel)
    |(go_at_call 90;refine(hti _ _ _).mono ?_;rintro x w9 ⟨rfl,hw9⟩;have hw9':=hw9.symm;subst hw9';clear hw9))
 go_wp2
 go_end0
 first
  | exact⟨rfl,X1,vs,H3.out.1.more (by omega),H3.out.2⟩
  | exact⟨rfl,X1,vs,(H3.out.1.later ((Below.refl _ _).drew)).1.more (by omega),H3.out.2.trans (Kl.of (H3.out.1.later ((Below.refl _ _).drew)).2)⟩
theorem st_ret {w0 w:World}{L kb pb:Nat}{X:Nat→Prop}{P:Prg}{vs vk:Sk.Vs}{f:Nat}{u:Bool}{N m b off:Nat}{cv av nv qv:Value}{p:Int}{s o:ByteArray}{d:Bool}{l:List Po}{e:Tr}{a b2:List Stm}{back:Int}(hB:Lb w0 L pb P cv av nv qv)(h:Lk w0 w L kb pb X P vs vk f u N)(hx:AtS w0 L b off (.mk 8 p s o d l e a b2))(hv:back≠0)(ht:Sk.typ P vs m e=some back)(hN:N+(3+Sk.kst m)<1000000000):
 Calls Tryz.prog 126 #[.pointer (some ⟨kb,0,none⟩),.pointer (some ⟨b,off,none⟩),.int .i64 back] w fun r w'=>r=.returned (.tuple #[])∧LkP w0 w L kb pb X P vs f u (N+(3+Sk.kst m)) w':=by
 obtain⟨hsz,hoz,hxe,lv,av',bv',hlv,_,_,hcell⟩:=st_parts hx
 obtain⟨mk,w1,X1,hw1,z2,zf,zl,H1⟩:=stNew h
 have HM:=hidq (muE (w:=w) (kb:=kb) (X:=X) (X1:=X1) (f:=f) (u:=u) hB hxe ht)
 have hb0:(back==0)=false:=by simpa using hv
 clear hv ht
 have HC:=hidq hcell
 obtain⟨c0,c1,c2,c3,c5,c13,c14,cbl⟩:=hcell w h.bel
 have hti:=fun c p w=>tellIfC c p w
 have hmm:=@run_makeMap Tryz.prog
 clear h hx hcell hlv hB
 go_enter Tryz.func126,Tryz.ntmps126
 go_upto_region 1 with fail
 rw[←hw1]
 clear hw1 c0 c1 c2 c3 c5 c13 c14 cbl z2 zf zl
 obtain⟨d0,d1,d2,d3,d5,d13,d14,dbl⟩:=HC.out w1 H1.out.1.bel
 go_wp2_with fail
 refine(hti _ _ _).mono ?_
 rintro x w9 ⟨rfl,hw9⟩
 have hw9':=hw9.symm
 subst hw9'
 clear hw9
 have hm:=HM.out w1 w1 N H1.out.1 H1.out.2 (Below.refl _ _) (by omega)
 go_wp2_with fail
 refine hm.mono ?_
 rintro x w3 ⟨rfl,H3⟩
 clear hm
 go_wp2
 go_end0
 exact⟨rfl,X1,vs,H3.out.1.more (by omega),H3.out.2⟩
theorem st_let {w0 w:World}{L kb pb:Nat}{X:Nat→Prop}{P:Prg}{vs vk:Sk.Vs}{f:Nat}{u:Bool}{N m b off:Nat}{cv av nv qv:Value}{p:Int}{s o:ByteArray}{d:Bool}{l:List Po}{e:Tr}{a b2:List Stm}{t back:Int}(hB:Lb w0 L pb P cv av nv qv)(h:Lk w0 w L kb pb X P vs vk f u N)(hx:AtS w0 L b off (.mk 1 p s o d l e a b2))(hv:checkL P.chiefs P.acts l=0)(ht:Sk.typ P vs m e=some t)(hn:Sk.lastV vs s=none)(hf:vs.length<900)(hN:N+(3+Sk.kst m)<1000000000):
 Calls Tryz.prog 126 #[.pointer (some ⟨kb,0,none⟩),.pointer (some ⟨b,off,none⟩),.int .i64 back] w fun r w'=>r=.returned (.tuple #[])∧LkP w0 w L kb pb X P (vs++[(s,t)]) f u (N+(3+Sk.kst m)) w':=by
 obtain⟨hsz,hoz,hxe,lv,av',bv',hlv,_,_,hcell⟩:=st_parts hx
 obtain⟨mk,w1,X1,hw1,z2,zf,zl,H1⟩:=stNew h
 have HM:Hid (∀W,Lk w0 W L kb pb X1 P vs vs f u N→Calls Tryz.prog 156 #[.pointer (some ⟨kb,0,none⟩),.pointer (some ⟨b,off,none⟩)] W fun r w'=>r=.returned (.tuple #[])∧Hid (LkP w0 W L kb pb X1 P (vs++[(s,t)]) f u (N+Sk.kst m+1) w')):=fun W q=>letK hB q hx hv ht hn hf (by omega)
 clear hv ht hn hf
 have HC:=hidq hcell
 obtain⟨c0,c1,c2,c3,c5,c13,c14,cbl⟩:=hcell w h.bel
 have hti:=fun c p w=>tellIfC c p w
 have hmm:=@run_makeMap Tryz.prog
 clear h hx hcell hlv hB
 go_enter Tryz.func126,Tryz.ntmps126
 go_upto_region 1 with fail
 rw[←hw1]
 clear hw1 c0 c1 c2 c3 c5 c13 c14 cbl z2 zf zl
 obtain⟨d0,d1,d2,d3,d5,d13,d14,dbl⟩:=HC.out w1 H1.out.1.bel
 have hm:=HM.out w1 H1.out.1
 go_wp2_with fail
 refine hm.mono ?_
 rintro x w3 ⟨rfl,H3⟩
 clear hm
 go_wp2
 go_end0
 obtain⟨X2,vk2,q1,q2⟩:=H3.out
 exact⟨rfl,X2,vk2,q1.more (by omega),H1.out.2.trans q2⟩
end Go.Proofs.YtepkhlpjgnckkaaGreatDoor
