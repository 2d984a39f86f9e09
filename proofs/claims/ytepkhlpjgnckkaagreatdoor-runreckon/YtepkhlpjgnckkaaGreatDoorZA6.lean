/- Contract of chief.Check. And more of the same. -/
import Derived.Test.YtepkhlpjgnckkaaGreatDoorZA5
import Derived.Deep.AppendLies
namespace Go.Proofs.YtepkhlpjgnckkaaGreatDoor
set_option maxRecDepth 100000
set_option maxHeartbeats 8000000
open Go.RowKit
def chkN (seen:List ByteArray):List ByteArray→Int
 |[]=>0
 | s::r=>if Lex.nameF s.data.toList=false then 4 else if Act.has seen s=true then 6 else chkN (seen++[s]) r
def chkP (ls:List ByteArray):List (ByteArray×ByteArray)→Int
 |[]=>0
 | p::r=>if Act.has ls p.1=true∧Act.has ls p.2=true then chkP ls r else 5
def checkF (ls:List ByteArray)(ps:List (ByteArray×ByteArray)):Int:=
 if 6<ls.length∨10<ps.length then 2 else if chkN [] ls=0 then chkP ls ps else chkN [] ls
theorem chkN_step {ls:List ByteArray}{k:Nat}(hk:k<ls.length)(h1:Lex.nameF ls[k].data.toList=true)(h2:Act.has (ls.take k) ls[k]=false):chkN (ls.take k) (ls.drop k)=chkN (ls.take (k+1)) (ls.drop (k+1)):=by
 rw[List.drop_eq_getElem_cons hk,chkN,if_neg (by rw[h1];simp),if_neg (by rw[h2];simp),List.take_succ_eq_append_getElem hk]
theorem chkN_form {ls:List ByteArray}{k:Nat}(hk:k<ls.length)(h1:Lex.nameF ls[k].data.toList=false):chkN (ls.take k) (ls.drop k)=4:=by
 rw[List.drop_eq_getElem_cons hk,chkN,if_pos h1]
theorem chkN_twice {ls:List ByteArray}{k:Nat}(hk:k<ls.length)(h1:Lex.nameF ls[k].data.toList=true)(h2:Act.has (ls.take k) ls[k]=true):chkN (ls.take k) (ls.drop k)=6:=by
 rw[List.drop_eq_getElem_cons hk,chkN,if_neg (by rw[h1];simp),if_pos h2]
theorem chkP_step {ls:List ByteArray}{ps:List (ByteArray×ByteArray)}{k:Nat}(hk:k<ps.length)(h1:Act.has ls ps[k].1=true)(h2:Act.has ls ps[k].2=true):chkP ls (ps.drop k)=chkP ls (ps.drop (k+1)):=by
 rw[List.drop_eq_getElem_cons hk,chkP,if_pos ⟨h1,h2⟩]
theorem chkP_who {ls:List ByteArray}{ps:List (ByteArray×ByteArray)}{k:Nat}(hk:k<ps.length)(h:¬(Act.has ls ps[k].1=true∧Act.has ls ps[k].2=true)):chkP ls (ps.drop k)=5:=by
 rw[List.drop_eq_getElem_cons hk,chkP,if_neg h]
theorem checkF_many {ls:List ByteArray}{ps:List (ByteArray×ByteArray)}(h:6<ls.length∨10<ps.length):checkF ls ps=2:=by simp[checkF,h]
theorem checkF_n {ls:List ByteArray}{ps:List (ByteArray×ByteArray)}(h:¬(6<ls.length∨10<ps.length))(h':chkN [] ls≠0):checkF ls ps=chkN [] ls:=by rw[checkF,if_neg h,if_neg h']
theorem checkF_p {ls:List ByteArray}{ps:List (ByteArray×ByteArray)}(h:¬(6<ls.length∨10<ps.length))(h':chkN [] ls=0):checkF ls ps=chkP ls ps:=by rw[checkF,if_neg h,if_pos h']
theorem check_any (ao po:Option Addr)(b off b' off' n m c d:Nat)(ls:List ByteArray)(ps:List (ByteArray×ByteArray))(w:World)(hn:n=ls.length)(hm:m=ps.length)(hnm:n≤maxLen)(hmm:m≤maxLen)(hc:n≤c)
 (ht:Strs w ao b off ls) (hp:Prs w po b' off' ps) (hz:∀s∈ls,s.size≤maxLen):
 Calls Tryz.prog 85 #[.slice ao n c,.slice po m d] w fun e w'=>e=.returned (.int .i64 (checkF ls ps))∧Below w.heap.size w w':=by
 have HL:Hid (n=ls.length):=hn
 have HM:Hid (m=ps.length):=hm
 unfold maxLen at hnm hmm
 by_cases hbig:6<n∨10<m
 ·have HF:Hid (checkF ls ps=2):=checkF_many (by omega)
  clear hn hm hz
  by_cases h6:6<n
  ·have d6:decide ((6:Int)<(n:Int))=true:=by simp;omega
   clear hbig
   go_enter Tryz.func85,Tryz.ntmps85
   go_wp2
   go_ret
   refine⟨?_,Below.refl _ _⟩
   rw[HF.out];rfl
  ·have d6:decide ((6:Int)<(n:Int))=false:=by simp;omega
   have d10:decide ((10:Int)<(m:Int))=true:=by simp;omega
   clear hbig
   go_enter Tryz.func85,Tryz.ntmps85
   go_wp2
   go_ret
   refine⟨?_,Below.refl _ _⟩
   rw[HF.out];rfl
 ·have d6:decide ((6:Int)<(n:Int))=false:=by simp;omega
  have d10:decide ((10:Int)<(m:Int))=false:=by simp;omega
  have HB:Hid (¬(6<ls.length∨10<ps.length)):=by show ¬_;omega
  have HZ:Hid (∀s∈ls,s.size≤9223372036854775807):=hz
  have hn6:n≤6:=by omega
  have hm10:m≤10:=by omega
  clear hbig hn hm hz hnm hmm
  go_enter Tryz.func85,Tryz.ntmps85
  go_wp2
  go_loopw [19] (fun i wr=>∃k:Nat,k≤n∧i=.int .i64 k∧Hid (chkN (ls.take k) (ls.drop k)=chkN [] ls)∧wr=w) (fun i _=>n - (intOf i).toNat)
  case atStart=>exact⟨0,Nat.zero_le _,rfl,by show _=_;simp,rfl⟩
  case round=>
   obtain⟨k,hk,rfl,HN,hw⟩:=hrel
   subst hw
   by_cases hlt:k<n
   ·have hl0:=HL.out
    have hao:=ht.adr (by omega)
    subst hao
    have hkl:k<ls.length:=by omega
    have f0:=ht.cell k hkl
    have hz0:ls[k].size≤9223372036854775807:=HZ.out _ (List.getElem_mem hkl)
    obtain⟨x,hx⟩:∃x,x=ls[k]:=⟨_,rfl⟩
    rw[←hx] at f0 hz0
    have HX:Hid (x=ls[k]):=hx
    clear hl0 hx
    cases hnm:Lex.nameF x.data.toList with
    | false=>
     have HE:Hid (checkF ls ps=4):=by
      have e:=chkN_form hkl (by rw[←HX.out];exact hnm)
      rw[HN.out] at e
      show _=_
      rw[checkF_n HB.out (by rw[e];decide),e]
     have HNM:Hid (Lex.nameF x.data.toList=false):=hnm
     clear hnm
     go_wp2_with fail
     refine(scanName_any x _ hz0).mono ?_
     rintro e w1 ⟨rfl,hw⟩
     have hw':=hw.symm
     subst hw'
     rw[HNM.out]
     go_wp2
     go_ret
     refine⟨?_,Below.refl _ _⟩
     rw[HE.out];rfl
    | true=>
     have HNM:Hid (Lex.nameF x.data.toList=true):=hnm
     have hkc:k≤c:=by omega
     clear hnm
     go_wp2_with fail
     refine(scanName_any x _ hz0).mono ?_
     rintro e w1 ⟨rfl,hw⟩
     have hw':=hw.symm
     subst hw'
     rw[HNM.out]
     go_wp2_with fail
     refine(contains_any _ b off k c (ls.take k) x _ (by simp;omega) (by unfold maxLen;omega) (ht.take k)).mono ?_
     rintro e w1 ⟨rfl,hw⟩
     have hw':=hw.symm
     subst hw'
     cases hh:Act.has (ls.take k) x with
     | true=>
      have HE:Hid (checkF ls ps=6):=by
       have e:=chkN_twice hkl (by rw[←HX.out];exact HNM.out) (by rw[←HX.out];exact hh)
       rw[HN.out] at e
       show _=_
       rw[checkF_n HB.out (by rw[e];decide),e]
      clear hh
      go_wp2
      go_ret
      refine⟨?_,Below.refl _ _⟩
      rw[HE.out];rfl
     | false=>
      have HE:Hid (chkN (ls.take (k+1)) (ls.drop (k+1))=chkN [] ls):=by
       show _=_
       rw[←HN.out,chkN_step hkl (by rw[←HX.out];exact HNM.out) (by rw[←HX.out];exact hh)]
      clear hh
      go_wp2
      go_roundw
      case rel=>exact⟨k+1,by omega,by go_num,HE,trivial⟩
      case measure=>simp[intOf];omega
   ·have HF:Hid (checkF ls ps=chkP ls ps):=by
     have e:=HN.out
     rw[List.drop_of_length_le (by have:=HL.out;omega)] at e
     exact checkF_p HB.out e.symm
    clear HN
    go_wp2
    obtain⟨wq,hq⟩:∃wq,wq=wr:=⟨wr,rfl⟩
    subst hq
    go_loopw [35] (fun i wx=>∃j:Nat,j≤m∧i=.int .i64 j∧Hid (chkP ls (ps.drop j)=chkP ls ps)∧Below wq.heap.size wq wx) (fun i _=>m - (intOf i).toNat)
    case atStart=>exact⟨0,Nat.zero_le _,rfl,by show _=_;simp,Below.refl _ _⟩
    case round=>
     obtain⟨j,hj,rfl,HN,hbx⟩:=hrel
     have hle:=hbx.size
     by_cases hlt2:j<m
     ·have hl0:=HM.out
      have hpo:=hp.adr (by omega)
      subst hpo
      have hjl:j<ps.length:=by omega
      have hp':=hp.later hbx
      have f0:=hp'.c0 j hjl
      have f1:=hp'.c1 j hjl
      obtain⟨x,hx⟩:∃x,x=ps[j]:=⟨_,rfl⟩
      rw[←hx] at f0 f1
      obtain⟨x1,x2⟩:=x
      have HX:Hid ((x1,x2)=ps[j]):=hx
      simp only at f0 f1
      have hbn:∀o,Below wq.heap.size wq (wr.alloc o):=fun o=>hbx.alloc hle o
      clear hl0 hx hp'
      cases h1:Act.has ls x1 with
      | false=>
       have HE:Hid (checkF ls ps=5):=by
        have e:=chkP_who (ls:=ls) hjl (by rw[←HX.out];simp[h1])
        rw[HN.out] at e
        show _=_
        rw[HF.out,e]
       have H1:Hid (Act.has ls x1=false):=h1
       clear h1
       go_wp2_with fail
       refine(contains_any _ b off n c ls x1 _ HL.out (by unfold maxLen;omega) (ht.later (hbn _))).mono ?_
       rintro e w1 ⟨rfl,hw⟩
       have hw':=hw.symm
       subst hw'
       rw[H1.out]
       go_wp2
       go_ret
       refine⟨?_,hbn _⟩
       rw[HE.out];rfl
      | true=>
       have H1:Hid (Act.has ls x1=true):=h1
       clear h1
       go_wp2_with fail
       refine(contains_any _ b off n c ls x1 _ HL.out (by unfold maxLen;omega) (ht.later (hbn _))).mono ?_
       rintro e w1 ⟨rfl,hw⟩
       have hw':=hw.symm
       subst hw'
       rw[H1.out]
       go_wp2_with fail
       refine(contains_any _ b off n c ls x2 _ HL.out (by unfold maxLen;omega) (ht.later (hbn _))).mono ?_
       rintro e w1 ⟨rfl,hw⟩
       have hw':=hw.symm
       subst hw'
       cases h2:Act.has ls x2 with
       | false=>
        have HE:Hid (checkF ls ps=5):=by
         have e:=chkP_who (ls:=ls) hjl (by rw[←HX.out];simp[h2])
         rw[HN.out] at e
         show _=_
         rw[HF.out,e]
        clear h2
        go_wp2
        go_ret
        refine⟨?_,hbn _⟩
        rw[HE.out];rfl
       | true=>
        have HE:Hid (chkP ls (ps.drop (j+1))=chkP ls ps):=by
         show _=_
         rw[←HN.out,chkP_step hjl (by rw[←HX.out];exact H1.out) (by rw[←HX.out];exact h2)]
        clear h2
        go_wp2
        go_roundw
        case rel=>exact⟨j+1,by omega,by go_num,HE,hbn _⟩
        case measure=>simp[intOf];omega
     ·have HE:Hid (checkF ls ps=0):=by
       have e:=HN.out
       rw[List.drop_of_length_le (by have:=HM.out;omega)] at e
       show _=_
       rw[HF.out,←e,chkP]
      go_wp2
      go_ret
      refine⟨?_,hbx⟩
      rw[HE.out];rfl
structure Chiefs (w:World)(ao po:Option Addr)(b off b' off' n m c:Nat)(ls:List ByteArray)(ps:List (ByteArray×ByteArray)):Prop where
 ln:n=ls.length
 lm:m=ps.length
 mn:n≤maxLen
 mm:m≤maxLen
 cap:n≤c
 strs:Strs w ao b off ls
 prs:Prs w po b' off' ps
 sz:∀s∈ls,s.size≤maxLen
theorem Chiefs.later {w w':World}{ao po:Option Addr}{b off b' off' n m c:Nat}{ls:List ByteArray}{ps:List (ByteArray×ByteArray)}(h:Chiefs w ao po b off b' off' n m c ls ps)(hb:Below w.heap.size w w'):Chiefs w' ao po b off b' off' n m c ls ps:=
 ⟨h.ln,h.lm,h.mn,h.mm,h.cap,h.strs.later hb,h.prs.later hb,h.sz⟩
theorem check_of {w:World}{ao po:Option Addr}{b off b' off' n m c d:Nat}{ls:List ByteArray}{ps:List (ByteArray×ByteArray)}(h:Hid (Chiefs w ao po b off b' off' n m c ls ps)):
 Calls Tryz.prog 85 #[.slice ao n c,.slice po m d] w fun e w'=>e=.returned (.int .i64 (checkF ls ps))∧Below w.heap.size w w':=
 check_any ao po b off b' off' n m c d ls ps w h.out.ln h.out.lm h.out.mn h.out.mm h.out.cap h.out.strs h.out.prs h.out.sz
def amongF (ls l:List ByteArray):Int:=if 6<l.length then 2 else if l.all (fun s=>Act.has ls s)=true then 0 else 5
def chkL (ls:List ByteArray):List Pol→Int
 |[]=>0
 | p::r=>if amongF ls p.2=0 then(if Act.has ls p.1=true then chkL ls r else 5) else amongF ls p.2
def checkL (ls:List ByteArray)(ps:List (ByteArray×ByteArray))(x:List Pol):Int:=
 if checkF ls ps=0 then(if 200<x.length then 2 else chkL ls x) else checkF ls ps
theorem among_of {ls l:List ByteArray}(h:l.length≤6)(hs:∀s∈l,s∈ls):amongF ls l=0:=by
 unfold amongF
 rw[if_neg (by omega),if_pos (List.all_eq_true.2 fun s h=>Act.has_iff.2 (hs s h))]
structure LabAt (w:World)(ao:Option Addr)(b off n c:Nat)(x:List Pol):Prop where
 ln:n=x.length
 mn:n≤maxLen
 cap:n≤c
 pols:Pols w ao b off x
 sz:∀p∈x,p.1.size≤maxLen∧∀r∈p.2,r.size≤maxLen
theorem LabAt.later {w w':World}{ao:Option Addr}{b off n c:Nat}{x:List Pol}(h:LabAt w ao b off n c x)(hb:Below w.heap.size w w'):LabAt w' ao b off n c x:=
 ⟨h.ln,h.mn,h.cap,h.pols.later hb,h.sz⟩
theorem all_step {ls l:List ByteArray}{k:Nat}(hk:k<l.length)(h:∀s∈l.take k,s∈ls)(g:l[k]∈ls):∀s∈l.take (k+1),s∈ls:=by
 intro s hs
 rw[List.take_succ_eq_append_getElem hk,List.mem_append,List.mem_singleton] at hs
 rcases hs with hs | hs
 ·exact h s hs
 ·rw[hs];exact g
theorem among_who {ls l:List ByteArray}(h:l.length≤6){s:ByteArray}(hs:s∈l)(hn:s ∉ ls):amongF ls l=5:=by
 unfold amongF
 rw[if_neg (by omega),if_neg]
 intro ha
 exact hn (Act.has_iff.1 (List.all_eq_true.1 ha s hs))
theorem among_any (ao vo:Option Addr)(b off b' off' n m c d:Nat)(ls l:List ByteArray)(w:World)(hn:n=ls.length)(hm:n≤maxLen)(hl:m=l.length)(hlm:m≤maxLen)(ht:Strs w ao b off ls)(hv:Strs w vo b' off' l):
 Calls Tryz.prog 171 #[.slice ao n c,.slice vo m d] w fun e w'=>e=.returned (.int .i64 (amongF ls l))∧w'=w:=by
 have HN:Hid (n=ls.length):=hn
 have HL:Hid (m=l.length):=hl
 have HM:Hid (n≤maxLen):=hm
 unfold maxLen at hlm
 by_cases h6:6<m
 ·have HF:Hid (amongF ls l=2):=by show _=_;unfold amongF;rw[if_pos (by omega)]
  clear hn hm hl
  go_enter Tryz.func171,Tryz.ntmps171
  go_wp2
  go_ret
  refine⟨?_,rfl⟩
  rw[HF.out];rfl
 ·clear hn hm hl
  go_enter Tryz.func171,Tryz.ntmps171
  go_wp2
  go_loopw [12] (fun i wr=>∃k:Nat,k≤m∧i=.int .i64 k∧Hid (∀s∈l.take k,s∈ls)∧wr=w) (fun i _=>m - (intOf i).toNat)
  case atStart=>exact⟨0,Nat.zero_le _,rfl,by show ∀s∈_,_;simp,rfl⟩
  case round=>
   obtain⟨k,hk,rfl,HA,hw⟩:=hrel
   subst hw
   by_cases hlt:k<m
   ·have hl0:=HL.out
    have hkl:k<l.length:=by omega
    have hao:=hv.adr (by omega)
    have f0:=hv.cell k hkl
    obtain⟨x,hx⟩:∃x,x=l[k]:=⟨_,rfl⟩
    rw[←hx] at f0
    have HX:Hid (x=l[k]):=hx
    have hct:=contains_any ao b off n c ls x wr HN.out HM.out ht
    clear hl0 hx
    subst hao
    cases hh:Act.has ls x with
    | true=>
     rw[hh] at hct
     have HS:Hid (∀s∈l.take (k+1),s∈ls):=all_step hkl HA.out (by rw[←HX.out];exact Act.has_iff.1 hh)
     clear hh
     go_wp2_with fail
     refine hct.mono ?_
     rintro e w1 ⟨rfl,hw⟩
     have hw':=hw.symm
     subst hw'
     go_wp2
     go_roundw
     case rel=>exact⟨k+1,by omega,by go_num,HS,trivial⟩
     case measure=>simp[intOf];omega
    | false=>
     rw[hh] at hct
     have HF:Hid (amongF ls l=5):=among_who (by have:=HL.out;omega) (List.getElem_mem hkl) (by rw[←HX.out];exact Act.has_not.1 hh)
     clear hh
     go_wp2_with fail
     refine hct.mono ?_
     rintro e w1 ⟨rfl,hw⟩
     have hw':=hw.symm
     subst hw'
     go_wp2
     go_ret
     refine⟨?_,rfl⟩
     rw[HF.out];rfl
   ·have HF:Hid (amongF ls l=0):=by
     have h:=HA.out
     rw[List.take_of_length_le (by have:=HL.out;omega)] at h
     exact among_of (by have:=HL.out;omega) h
    go_wp2
    go_ret
    refine⟨?_,rfl⟩
    rw[HF.out];rfl
theorem chkL_step {ls:List ByteArray}{x:List Pol}{k:Nat}(hk:k<x.length)(h1:amongF ls x[k].2=0)(h2:Act.has ls x[k].1=true):chkL ls (x.drop k)=chkL ls (x.drop (k+1)):=by
 rw[List.drop_eq_getElem_cons hk,chkL,if_pos h1,if_pos h2]
theorem chkL_owner {ls:List ByteArray}{x:List Pol}{k:Nat}(hk:k<x.length)(h1:amongF ls x[k].2=0)(h2:Act.has ls x[k].1=false):chkL ls (x.drop k)=5:=by
 rw[List.drop_eq_getElem_cons hk,chkL,if_pos h1,if_neg (by rw[h2];simp)]
theorem chkL_readers {ls:List ByteArray}{x:List Pol}{k:Nat}(hk:k<x.length)(h1:amongF ls x[k].2≠0):chkL ls (x.drop k)=amongF ls x[k].2:=by
 rw[List.drop_eq_getElem_cons hk,chkL,if_neg h1]
theorem checkLab (ao po lo:Option Addr)(b off b' off' n m c d lb loff ln lc:Nat)(ls:List ByteArray)(ps:List (ByteArray×ByteArray))(x:List Pol)(w:World)(hc:Chiefs w ao po b off b' off' n m c ls ps)(hx:LabAt w lo lb loff ln lc x):
 Calls Tryz.prog 155 #[.slice ao n c,.slice po m d,.slice lo ln lc] w fun e w'=>e=.returned (.int .i64 (checkL ls ps x))∧Below w.heap.size w w':=by
 have HC:Hid (Chiefs w ao po b off b' off' n m c ls ps):=hc
 have HX:Hid (LabAt w lo lb loff ln lc x):=hx
 have hlm:=hx.mn
 unfold maxLen at hlm
 clear hc hx
 by_cases h0:checkF ls ps=0
 ·have HZ:Hid (checkF ls ps=0):=h0
  clear h0
  by_cases h200:200<ln
  ·have HF:Hid (checkL ls ps x=2):=by show _=_;unfold checkL;rw[if_pos HZ.out,if_pos (by have:=HX.out.ln;omega)]
   go_enter Tryz.func155,Tryz.ntmps155
   go_wp2_with fail
   refine(check_of HC).mono ?_
   rintro e w1 ⟨rfl,hb1⟩
   rw[HZ.out]
   go_wp2
   go_ret
   refine⟨?_,hb1⟩
   rw[HF.out];rfl
  ·have HF:Hid (checkL ls ps x=chkL ls x):=by show _=_;unfold checkL;rw[if_pos HZ.out,if_neg (by have:=HX.out.ln;omega)]
   rw[HF.out]
   go_enter Tryz.func155,Tryz.ntmps155
   go_wp2_with fail
   refine(check_of HC).mono ?_
   rintro e w1 ⟨rfl,hb1⟩
   rw[HZ.out]
   have HB1:Hid (Below w.heap.size w w1):=hb1
   clear hb1 HF
   go_wp2
   go_loopw [22] (fun i wr=>∃k:Nat,k≤ln∧i=.int .i64 k∧Hid (chkL ls (x.drop k)=chkL ls x)∧Hid (Below w.heap.size w wr)) (fun i _=>ln - (intOf i).toNat)
   case atStart=>exact⟨0,Nat.zero_le _,rfl,by show _=_;simp,HB1⟩
   case round=>
    clear HB1
    obtain⟨k,hk,rfl,HK,HB⟩:=hrel
    by_cases hlt:k<ln
    ·have hl0:=HX.out.ln
     have hkl:k<x.length:=by omega
     have hX:=HX.out.later HB.out
     have hao:=hX.pols.adr (by omega)
     have f0:=hX.pols.c0 k hkl
     obtain⟨v,f1,hv⟩:=hX.pols.c1 k hkl
     obtain⟨p,hp⟩:∃p,p=x[k]:=⟨_,rfl⟩
     rw[←hp] at f0 hv
     obtain⟨o,rs⟩:=p
     simp only at f0 hv
     have HP:Hid ((o,rs)=x[k]):=hp
     obtain⟨ro,rb,roff,rc,hv1,hv2,hv3,hv4⟩:=hv
     subst hv1
     have hbn:Below w.heap.size w (wr.alloc (.cells #[.string o,.slice ro rs.length rc] 152)):=HB.out.alloc HB.out.size _
     have hb0:Below wr.heap.size wr (wr.alloc (.cells #[.string o,.slice ro rs.length rc] 152)):=(Below.refl _ _).alloc (Nat.le_refl _) _
     have hC:=HC.out.later hbn
     have ham:=among_any ao ro b off rb roff n rs.length c rc ls rs (wr.alloc (.cells #[.string o,.slice ro rs.length rc] 152)) hC.ln hC.mn rfl (by omega) hC.strs (hv4.later hb0)
     have hct:=contains_any ao b off n c ls o (wr.alloc (.cells #[.string o,.slice ro rs.length rc] 152)) hC.ln hC.mn hC.strs
     have HBN:Hid (Below w.heap.size w (wr.alloc (.cells #[.string o,.slice ro rs.length rc] 152))):=hbn
     obtain⟨rn,hrn⟩:∃rn,rn=rs.length:=⟨_,rfl⟩
     rw[←hrn] at f1 ham hct HBN
     clear hl0 hp hX hv2 hv3 hv4 hbn hb0 hC hrn
     subst hao
     by_cases ha:amongF ls rs=0
     ·rw[ha] at ham
      have HAM:Hid (amongF ls rs=0):=ha
      clear ha
      cases hh:Act.has ls o with
      | true=>
       rw[hh] at hct
       have HS:Hid (chkL ls (x.drop (k+1))=chkL ls x):=by
        show _=_
        rw[←HK.out,chkL_step hkl (by rw[←HP.out];exact HAM.out) (by rw[←HP.out];exact hh)]
       clear hh
       go_wp2_with fail
       refine ham.mono ?_
       rintro e w1 ⟨rfl,hw⟩
       have hw':=hw.symm
       subst hw'
       go_wp2_with fail
       refine hct.mono ?_
       rintro e w1 ⟨rfl,hw⟩
       have hw':=hw.symm
       subst hw'
       go_wp2
       go_roundw
       case rel=>exact⟨k+1,by omega,by go_num,HS,HBN⟩
       case measure=>simp[intOf];omega
      | false=>
       rw[hh] at hct
       have HF:Hid (chkL ls x=5):=by
        show _=_
        rw[←HK.out,chkL_owner hkl (by rw[←HP.out];exact HAM.out) (by rw[←HP.out];exact hh)]
       clear hh
       go_wp2_with fail
       refine ham.mono ?_
       rintro e w1 ⟨rfl,hw⟩
       have hw':=hw.symm
       subst hw'
       go_wp2_with fail
       refine hct.mono ?_
       rintro e w1 ⟨rfl,hw⟩
       have hw':=hw.symm
       subst hw'
       go_wp2
       go_ret
       refine⟨?_,HBN.out⟩
       rw[HF.out];rfl
     ·have HF:Hid (chkL ls x=amongF ls rs):=by
       show _=_
       rw[←HK.out,chkL_readers hkl (by rw[←HP.out];exact ha),←HP.out]
      obtain⟨e0,he0⟩:∃e0,e0=amongF ls rs:=⟨_,rfl⟩
      rw[←he0] at HF ham ha
      have hb:(e0==0)=false:=by simp[ha]
      have hb':(e0 !=0)=true:=by simp[ha]
      clear he0 ha
      go_wp2_with fail
      refine ham.mono ?_
      rintro e w1 ⟨rfl,hw⟩
      have hw':=hw.symm
      subst hw'
      go_wp2
      go_ret
      refine⟨?_,HBN.out⟩
      rw[HF.out];rfl
    ·have HF:Hid (chkL ls x=0):=by
      have e:=HK.out
      rw[List.drop_of_length_le (by have:=HX.out.ln;omega)] at e
      show _=_
      rw[←e];rfl
     go_wp2
     go_ret
     refine⟨?_,HB.out⟩
     rw[HF.out];rfl
 ·have HF:Hid (checkL ls ps x=checkF ls ps):=by show _=_;unfold checkL;rw[if_neg h0]
  obtain⟨e0,he0⟩:∃e0,e0=checkF ls ps:=⟨_,rfl⟩
  have HZ:Hid (checkF ls ps=e0):=he0.symm
  have hb:(e0==0)=false:=by simp[he0,h0]
  have hb':(e0 !=0)=true:=by simp[he0,h0]
  rw[HF.out,HZ.out]
  clear HF h0 he0
  go_enter Tryz.func155,Tryz.ntmps155
  go_wp2_with fail
  refine(check_of HC).mono ?_
  rintro e w1 ⟨rfl,hb1⟩
  rw[HZ.out]
  go_wp2
  go_ret
  exact⟨rfl,hb1⟩
open Par (Tr Stm Prm Chn Prc Prg Po ba)
theorem strs_of {w:World}{S:Nat→Prop}{v:Value}{l:List ByteArray}(h:StrsV w S v l):∃ao b off c,v=.slice ao l.length c∧Strs w ao b off l∧l.length≤c∧c≤maxLen:=by
 obtain⟨ao,b,off,c,hv,hr⟩:=h.row
 have hlen:(strCs l).length=l.length:=by simp[strCs]
 rw[hlen] at hv
 refine⟨ao,b,off,c,hv,⟨fun hp=>hr.adr (by omega),fun k hk=> ?_,fun hp=>hr.lt (by omega)⟩,by have:=hr.cap;omega,hr.mx⟩
 have:=hr.cell k (by omega) 0 (.string l[k]) (by simp[strCs])
 simpa using this
theorem prs_of {w:World}{S:Nat→Prop}{v:Value}{l:List (ByteArray×ByteArray)}(h:RwV AcIs w S 2 v l):∃ao b off c,v=.slice ao l.length c∧Prs w ao b off l∧l.length≤c∧c≤maxLen:=by
 obtain⟨css,⟨ao,b,off,c,hv,hr⟩,hc,hk⟩:=h
 rw[hc] at hv
 refine⟨ao,b,off,c,hv,⟨fun hp=>hr.adr (by omega),fun k hk'=> ?_,fun k hk'=> ?_,fun hp=>hr.lt (by omega)⟩,by have:=hr.cap;omega,hr.mx⟩
 ·obtain⟨e,_⟩:=hk k hk' (by omega)
  exact hr.cell k (by omega) 0 _ (by rw[e];rfl)
 ·obtain⟨e,_⟩:=hk k hk' (by omega)
  exact hr.cell k (by omega) 1 _ (by rw[e];rfl)
theorem lab_at {w:World}{S:Nat→Prop}{v:Value}{l:List Po}(h:LabV w S v l):∃ao b off c,v=.slice ao l.length c∧LabAt w ao b off l.length c l:=by
 obtain⟨⟨vs,h1,⟨ao,b,off,c,hv,hr⟩,h3⟩,h4⟩:=h
 obtain⟨a1,a2⟩:=polCs_at h1
 rw[a1] at hv
 refine⟨ao,b,off,c,hv,rfl,by have:=hr.cap;have:=hr.mx;omega,by have:=hr.cap;omega,⟨fun hp=>hr.adr (by omega),fun k hk=> ?_,fun k hk=> ?_,fun hp=>hr.lt (by omega)⟩,fun p hp=>⟨h4 p hp,fun r hrr=> ?_⟩⟩
 ·exact hr.cell k (by omega) 0 _ (by rw[a2 k hk (by omega) (by omega)];rfl)
 ·refine⟨vs[k]'(by omega),hr.cell k (by omega) 1 _ (by rw[a2 k hk (by omega) (by omega)];rfl),?_⟩
  obtain⟨ro,rb,roff,rc,e,q1,q2,q3⟩:=strs_of (h3 k hk (by omega))
  exact⟨ro,rb,roff,rc,e,q2,q3,q1⟩
 ·obtain⟨k,hk,rfl⟩:=List.getElem_of_mem hp
  exact(h3 k hk (by omega)).sz r hrr
theorem Lb.chiefs {w0:World}{L pb:Nat}{P:Prg}{cv av nv qv:Value}(hB:Lb w0 L pb P cv av nv qv):∃ao po b off b' off' c d,cv=.slice ao P.chiefs.length c∧av=.slice po P.acts.length d∧∀w,Below L w0 w→Chiefs w ao po b off b' off' P.chiefs.length P.acts.length c P.chiefs P.acts:=by
 obtain⟨_,_,_,_,hcs,h1,h2,_⟩:=hB.is
 simp only[List.cons.injEq,and_true] at hcs
 obtain⟨rfl,rfl,rfl,rfl⟩:=hcs
 obtain⟨ao,b,off,c,e1,q1,q2,q3⟩:=strs_of h1
 obtain⟨po,b',off',d,e2,r1,r2,r3⟩:=prs_of h2
 refine⟨ao,po,b,off,b',off',c,d,e1,e2,fun w hw=>⟨rfl,rfl,by omega,by omega,q2,?_,?_,h1.sz⟩⟩
 ·obtain⟨ao2,b2,off2,c2,f1,g1,_⟩:=strs_of (h1.keeps (kbase hw))
  rw[e1] at f1
  cases f1
  have hlt:∀k,k<P.chiefs.length→b<L:=fun k hk=>by
   obtain⟨ao3,b3,off3,c3,hv,hr⟩:=h1.row
   rw[e1] at hv
   simp only[Value.slice.injEq] at hv
   obtain⟨rfl, -,rfl⟩:=hv
   have hl:(strCs P.chiefs).length=P.chiefs.length:=by simp[strCs]
   have e4:=hr.adr (by omega)
   have e5:=q1.adr (by omega)
   rw[e4] at e5
   cases e5
   exact hr.ok (by omega)
  exact⟨q1.adr,fun k hk=>(World.cell?_of_block (a:=⟨b,off+k,none⟩) (hw.block b (hlt k hk))).trans (q1.cell k hk),fun hp=>Nat.lt_of_lt_of_le (q1.lt hp) hw.size⟩
 ·have hlt:∀k,k<P.acts.length→b'<L:=fun k hk=>by
   obtain⟨css,⟨ao3,b3,off3,c3,hv,hr⟩,hc,_⟩:=h2
   rw[e2] at hv
   simp only[Value.slice.injEq] at hv
   obtain⟨rfl, -,rfl⟩:=hv
   have e4:=hr.adr (by omega)
   have e5:=r1.adr (by omega)
   rw[e4] at e5
   cases e5
   exact hr.ok (by omega)
  exact⟨r1.adr,fun k hk=>(World.cell?_of_block (a:=⟨b',off'+k*2,none⟩) (hw.block b' (hlt k hk))).trans (r1.c0 k hk),fun k hk=>(World.cell?_of_block (a:=⟨b',off'+k*2+1,none⟩) (hw.block b' (hlt k hk))).trans (r1.c1 k hk),fun hp=>Nat.lt_of_lt_of_le (r1.lt hp) hw.size⟩
theorem labelK {w0 w:World}{L kb pb:Nat}{X:Nat→Prop}{P:Prg}{vs vk:Sk.Vs}{f:Nat}{u:Bool}{N:Nat}{cv av nv qv lv:Value}(hB:Lb w0 L pb P cv av nv qv)(h:Lk w0 w L kb pb X P vs vk f u N){l:List Po}(hl:LabV w0 (fun b=>b<L) lv l)(hc:checkL P.chiefs P.acts l=0)(p:Int):
 Calls Tryz.prog 121 #[.pointer (some ⟨kb,0,none⟩),lv,.int .i64 p] w fun x w'=>x=.returned (.tuple #[])∧Below w.heap.size w w':=by
 obtain⟨ao,po,b,off,b',off',c,d,rfl,rfl,hch⟩:=hB.chiefs
 obtain⟨vo,vc,mk,ma,mr,K,hE⟩:=h
 obtain⟨lo,lb,loff,lc,rfl,hla⟩:=lab_at (hl.keeps (kbase hE.bel))
 have HCH:=hidq (hch w hE.bel)
 have HLA:=hidq hla
 obtain⟨z0,_,_,_,_,_,zl,_⟩:=hE.cells
 have hpw:w.heap[pb]? =w0.heap[pb]? :=hE.bel.block pb hB.pl
 have hblk:=hpw.trans hB.blk
 obtain⟨n,hn⟩:∃n,n=P.chiefs.length:=⟨_,rfl⟩
 obtain⟨m,hm⟩:∃n,n=P.acts.length:=⟨_,rfl⟩
 obtain⟨ln,hln⟩:∃n,n=l.length:=⟨_,rfl⟩
 have y0:w.cell? ⟨pb,0,none⟩=some (.slice ao n c):=by rw[hn];exact cl hblk 0 rfl
 have y1:w.cell? ⟨pb,1,none⟩=some (.slice po m d):=by rw[hm];exact cl hblk 1 rfl
 have yl:=lt_of_block hblk
 have HK:Hid (∀W,Below w.heap.size w W→Calls Tryz.prog 155 #[.slice ao n c,.slice po m d,.slice lo ln lc] W fun e w'=>e=.returned (.int .i64 0)∧Below w.heap.size w w'):=fun W hW=>by
  have:=checkLab ao po lo b off b' off' P.chiefs.length P.acts.length c d lb loff l.length lc P.chiefs P.acts l W (HCH.out.later hW) (HLA.out.later hW)
  rw[hc,←hn,←hm,←hln] at this
  exact this.mono fun e w' ⟨h1,h2⟩=>⟨h1,hW.trans (h2.mono hW.size)⟩
 have hte:=fun w=>tellC p w
 rw[←hln]
 clear hE hpw hblk hn hm hln hc hl hla hch hB
 go_enter Tryz.func121,Tryz.ntmps121
 go_upto_region 0 with fail
 go_region_held3 (fun W=>W.cell? ⟨kb,0,none⟩=some (.pointer (some ⟨pb,0,none⟩))∧W.cell? ⟨pb,0,none⟩=some (.slice ao n c)∧W.cell? ⟨pb,1,none⟩=some (.slice po m d)) (go_keep)
  (first
    |(go_at_call 155;refine(HK.out _ (by exact⟨rfl,rfl,rfl,Nat.le_refl _,fun _ _=>rfl⟩)).mono ?_;rintro x w1 ⟨rfl,hb1⟩;have HB1:=hidq hb1;have k0:=(hb1.cell (p:=⟨kb,0,none⟩) zl).trans z0;have k1:=(hb1.cell (p:=⟨pb,0,none⟩) yl).trans y0;have k2:=(hb1.cell (p:=⟨pb,1,none⟩) yl).trans y1;clear hb1)
    |(go_at_call 84;refine(hte _).mono ?_;rintro x w2 ⟨rfl,hw2⟩;have hw2':=hw2.symm;subst hw2';clear hw2))
 go_wp2
 go_end0
 first
  | exact⟨rfl,HB1.out⟩
  | exact⟨rfl,HB1.out.trans (below_drewN _ _)⟩
def AtS (w0:World)(L b off:Nat)(s:Stm):Prop:=∃cs,At w0 (fun b=>b<L) b off cs∧StIs w0 (fun b=>b<L) s cs∧Pln w0 b
theorem st_parts {w0:World}{L b off:Nat}{k p:Int}{s o:ByteArray}{d:Bool}{l:List Po}{e:Tr}{a b2:List Stm}(h:AtS w0 L b off (.mk k p s o d l e a b2)):
 s.size≤maxLen∧o.size≤maxLen∧AtX w0 L b (off+6) e∧∃lv av bv,LabV w0 (fun b=>b<L) lv l∧RwV StIs w0 (fun b=>b<L) 15 av a∧RwV StIs w0 (fun b=>b<L) 15 bv b2∧∀w,Below L w0 w→w.cell? ⟨b,off,none⟩=some (.int .i64 k)∧w.cell? ⟨b,off+1,none⟩=some (.int .i64 p)∧w.cell? ⟨b,off+2,none⟩=some (.string s)∧w.cell? ⟨b,off+3,none⟩=some (.string o)∧w.cell? ⟨b,off+5,none⟩=some lv∧w.cell? ⟨b,off+13,none⟩=some av∧w.cell? ⟨b,off+14,none⟩=some bv∧b<w.heap.size:=by
 obtain⟨cs,h1,h2,h3⟩:=h
 obtain⟨lv,ce,av,bv,rfl,hs,ho,hl,hte,ha,hb⟩:=h2.rows
 refine⟨hs,ho,⟨ce,At.part h1,hte,h3⟩,lv,av,bv,hl,ha,hb,fun w hw=> ?_⟩
 have h4:=h1.keeps (kbase hw)
 have hl7:=hte.len
 exact⟨h4.cell 0 _ rfl,h4.cell 1 _ rfl,h4.cell 2 _ rfl,h4.cell 3 _ rfl,h4.cell 5 _ rfl,h4.cell 13 _ (by simp[hl7]),h4.cell 14 _ (by simp[hl7]),h4.lt⟩
def Kl (X X':Nat→Prop)(w w':World):Prop:=Kx X w w'∧∀b,X' b→X b∨w.heap.size≤b
theorem Kl.of {X:Nat→Prop}{w w':World}(h:Kx X w w'):Kl X X w w':=⟨h,fun _ h=>.inl h⟩
theorem Kl.trans {X X' X'':Nat→Prop}{a b c:World}(h:Kl X X' a b)(g:Kl X' X'' b c):Kl X X'' a c:=by
 refine⟨⟨Nat.le_trans h.1.size g.1.size,fun i hi hl=> ?_⟩,fun i hi=> ?_⟩
 ·refine(g.1.block i (fun hx=> ?_) (Nat.lt_of_lt_of_le hl h.1.size)).trans (h.1.block i hi hl)
  rcases h.2 i hx with e | e
  ·exact hi e
  ·omega
 ·rcases g.2 i hi with e | e
  ·exact h.2 i e
  ·exact .inr (Nat.le_trans h.1.size e)
def LkP (w0 w:World)(L kb pb:Nat)(X:Nat→Prop)(P:Prg)(vs:Sk.Vs)(f:Nat)(u:Bool)(N:Nat)(w':World):Prop:=∃X' vk,Lk w0 w' L kb pb X' P vs vk f u N∧Kl X X' w w'
theorem LkE.fresh {w0 w w1:World}{L kb pb:Nat}{X:Nat→Prop}{P:Prg}{vs vk:Sk.Vs}{f:Nat}{u:Bool}{N:Nat}{vo:Option Addr}{vc mk ma mr:Nat}{K:List KE}(h:LkE w0 w L kb pb X P vs vk f u N vo vc mk ma mr K)(hw:w1=(w.setCell ⟨kb,2,none⟩ (.map (some w.heap.size))).alloc (.map #[] 0)):Lk w0 w1 L kb pb (fun b=>X b∨b=w.heap.size) P vs vs f u N∧Kl X (fun b=>X b∨b=w.heap.size) w w1:=by
 have hkb:=h.up kb h.xk.1
 have hz:w1.heap.size=w.heap.size+1:=by rw[hw];simp[World.setCell]
 have hst:∀b,b<w.heap.size→b≠kb→w1.heap[b]? =w.heap[b]? :=fun b hb e=>by
  rw[hw,heap_alloc_old _ _ (by simp[World.setCell];exact hb)]
  exact Below.heap_setCell _ _ _ _ e
 have hsm:Sm w w1:=by rw[hw];exact⟨rfl,rfl,rfl⟩
 have hbel:Below L w0 w1:=⟨hsm.os.trans h.bel.os,hsm.tape.trans h.bel.tape,hsm.out.trans h.bel.output,by have:=h.bel.size;omega,fun k hk=>(hst k (by omega) (by omega)).trans (h.bel.block k hk)⟩
 obtain⟨css,h1,h2,h3⟩:=h.own.ex
 refine⟨⟨vo,vc,w.heap.size,ma,mr,[],hbel,?_,⟨css,own_kept2 h1 fun k e=>hst k (h1.lt k e).2 (h.xo k e).2,h2,h3⟩,⟨⟨#[],0,?_,rfl⟩,fun p hp=>by simp at hp⟩,fun q hq=>by simp at hq,h.asks.keeps ?_,⟨.inl h.xk.1,.inr rfl,.inl h.xk.2.2⟩,fun k e=>⟨.inl (h.xo k e).1,(h.xo k e).2⟩,⟨?_,?_,h.ne.2.2⟩,fun e=>⟨.inl (h.rt e).1,?_⟩,fun b hb=> ?_,h.few,by have:=h.mrl;omega,h.mre⟩,⟨⟨by omega,fun b hx hl=>hst b hl fun e=>hx (by rw[e];exact h.xk.1)⟩,fun b hb=>hb.imp id fun e=>by omega⟩⟩
 ·rw[hw,heap_alloc_old _ _ (by simp[World.setCell];exact hkb.2)]
  simp[World.setCell,Array.getElem?_modify,h.blk]
 ·rw[hw]
  have:=heap_alloc_new (w.setCell ⟨kb,2,none⟩ (.map (some w.heap.size))) (.map #[] 0)
  simpa[World.setCell] using this
 ·refine hst ma (h.up ma h.xk.2.2).2 fun e=> ?_
  obtain⟨D,es,clock,h5,_⟩:=h.asks
  have:=h.blk
  rw[←e,h5] at this
  cases this
 ·exact fun e=>by have:=(h.up ma h.xk.2.2).2;omega
 ·exact fun e=>by have:=h.mrl;omega
 ·refine(h.rt e).2.imp fun c hc=>(hst mr (h.up mr (h.rt e).1).2 fun e'=> ?_).trans hc
  have:=h.blk
  rw[←e',hc] at this
  cases this
 ·rcases hb with hb | rfl
  ·have:=h.up b hb;omega
  ·omega
theorem Tryz.infoPm:(Tryz.prog.info? 85).map (fun i=>(i.zero,i.size,i.bytes))=some (some (.agg #[.string ⟨#[]⟩,.int .i64 0,.slice none 0 0]),3,48):=by kernel_rfl
theorem LkE.addV {w0 w w5 w8:World}{L kb pb:Nat}{X:Nat→Prop}{P:Prg}{vs vk:Sk.Vs}{f:Nat}{u:Bool}{N:Nat}{vo:Option Addr}{vc mk ma mr:Nat}{K:List KE}(h:LkE w0 w L kb pb X P vs vk f u N vo vc mk ma mr K){s:ByteArray}{t:Int}{css:List (List Value)}{vo':Option Addr}{vc':Nat}(hf:vs.length<900)(hb:Below w.heap.size w w5)(hcl:css.length=vs.length)(h3:∀i (h:i<vs.length) (h':i<css.length),VsIs w (SB L (.slice vo vs.length vc)) vs[i] css[i])
 (h2:w8.ownsRow L 85 3 (.slice vo' (vs.length+1) vc') (vs.length+1) (css.flatten++[.string s,.int .i64 t,.slice none 0 0])) (hg:w5.grownBy w8 (.slice vo vs.length vc:Value).ownBlock) (hv:(.slice vo' (vs.length+1) vc':Value).ownBlock=(.slice vo vs.length vc:Value).ownBlock∨(.slice vo' (vs.length+1) vc':Value).ownBlock=some w5.heap.size):
 LkP w0 w L kb pb X P (vs++[(s,t)]) f u N (w8.setCell ⟨kb,1,none⟩ (.slice vo' (vs.length+1) vc')):=by
 have hkb:=h.up kb h.xk.1
 have hz5:=hb.size
 have hz8:=hg.size
 have hz9:(w8.setCell ⟨kb,1,none⟩ (.slice vo' (vs.length+1) vc')).heap.size=w8.heap.size:=by simp[World.setCell]
 have hold:∀k,(.slice vo vs.length vc:Value).ownBlock=some k→k<w.heap.size:=fun k e=>(h.up k (h.xo k e).1).2
 have hst:∀b,b<w.heap.size→(∀k,(.slice vo vs.length vc:Value).ownBlock=some k→b≠k)→w8.heap[b]? =w.heap[b]? :=fun b hb1 e=>(hg.block b (by omega) (fun e'=>e b e'.symm rfl)).trans (hb.block b hb1)
 have hset:∀b,b≠kb→(w8.setCell ⟨kb,1,none⟩ (.slice vo' (vs.length+1) vc')).heap[b]? =w8.heap[b]? :=fun b e=>Below.heap_setCell _ _ _ _ e
 have hne:∀b:Nat,(∃es clock,w.heap[b]? =some (Obj.map es clock))→∀k,(.slice vo vs.length vc:Value).ownBlock=some k→b≠k:=fun b ⟨es,clock,hm⟩ k e e'=>by
  obtain⟨css',j1,_⟩:=h.own.ex
  rcases j1.2 with⟨hv,_⟩|⟨g,cap,cur,hv,_,hgg,_⟩
  ·rw[hv] at e;cases e
  ·rw[hv] at e
   have e2:g=k:=by simpa[Value.ownBlock] using e
   rw[e2,←e',hm] at hgg
   cases hgg
 have hmap:∀b:Nat,(∃es clock,w.heap[b]? =some (Obj.map es clock))→(w8.setCell ⟨kb,1,none⟩ (.slice vo' (vs.length+1) vc')).heap[b]? =w.heap[b]? :=fun b hm=>by
  have h2:=hne b hm
  obtain⟨es,clock,hm⟩:=hm
  have h1:b≠kb:=fun e=>by
   have:=h.blk
   rw[←e,hm] at this
   cases this
  rw[hset b h1,hst b (lt_of_block hm) h2]
 have hsm:Sm w (w8.setCell ⟨kb,1,none⟩ (.slice vo' (vs.length+1) vc')):=(Sm.bel hb).trans ((Sm.gro hg).trans (Sm.set _ _ _))
 have hown:=OwnL.add (w:=w) (w1:=w5) (a:=(s,t)) (xs:=[.string s,.int .i64 t,.slice none 0 0]) (v':=.slice vo' (vs.length+1) vc') isElVs hold hcl h3 ⟨_,rfl,rfl⟩ (by omega) h2 hg hv
 have hfo':∀k,(.slice vo' (vs.length+1) vc':Value).ownBlock=some k→(X k∨(w.heap.size≤k∧k<w8.heap.size))∧k≠kb:=fun k e=>by
  rcases hv with hv | hv
  ·have:=h.xo k (hv.symm.trans e)
   exact⟨.inl this.1,this.2⟩
  ·have e2:=hv.symm.trans e
   cases e2
   have:=(h2.lt _ e).2
   exact⟨.inr ⟨hz5,this⟩,by omega⟩
 obtain⟨css',j1,j2,j3⟩:=hown.ex
 have hl1:(vs++[(s,t)]).length=vs.length+1:=by simp
 have hL:L≤w.heap.size:=by omega
 obtain⟨D,es,clock,ha1,ha2⟩:=h.asks
 obtain⟨⟨es2,clock2,hk1,hk2⟩,hk3⟩:=h.kn
 refine⟨fun b=>X b∨(w.heap.size≤b∧b<w8.heap.size),vk,⟨vo',vc',mk,ma,mr,K,?_,?_,?_,h.kn.keeps (hmap mk ⟨_,_,hk1⟩) fun q hq=> ?_,h.ok,h.asks.keeps (hmap ma ⟨_,_,ha1⟩),⟨.inl h.xk.1,.inl h.xk.2.1,.inl h.xk.2.2⟩,?_,h.ne,fun e=>⟨.inl (h.rt e).1,?_⟩,fun b hb'=> ?_,by rw[hl1];omega,by have:=h.mrl;omega,h.mre⟩,⟨⟨by omega,fun b hx hl=> ?_⟩,fun b hb'=>hb'.imp id fun e=>e.1⟩⟩
 ·exact⟨hsm.os.trans h.bel.os,hsm.tape.trans h.bel.tape,hsm.out.trans h.bel.output,by have:=h.bel.size;omega,fun k hk=>by
   rw[hset k (by omega),hst k (by omega) fun j e=>by have:=(h.up j (h.xo j e).1).1;omega]
   exact h.bel.block k hk⟩
 ·rw[hl1]
  have:=(hst kb hkb.2 fun k e=>Ne.symm (h.xo k e).2).trans h.blk
  simp[World.setCell,Array.getElem?_modify,this]
 ·rw[hl1]
  rw[hl1] at j1
  exact⟨css',by rw[hl1];exact ownsRow_setCell_other j1 (a:=⟨kb,1,none⟩) (fun e=>(hfo' kb e).2 rfl) _,j2,j3⟩
 ·have hlt:=(h.ok q hq).1
  rw[hset _ (by omega),hst _ (by omega) fun j e=>by have:=(h.up j (h.xo j e).1).1;omega]
 ·rw[hl1];exact hfo'
 ·obtain⟨c,hc⟩:=(h.rt e).2
  exact⟨c,(hmap mr ⟨_,_,hc⟩).trans hc⟩
 ·rw[hz9]
  rcases hb' with hb' | hb'
  ·have:=h.up b hb';omega
  ·omega
 ·rw[hset b fun e=>hx (by rw[e];exact h.xk.1)]
  exact hst b hl fun k e e'=>hx (by rw[e'];exact(h.xo k e).1)
open Par (levF ba)
def sgn:Nat→List ByteArray
 | 0=>[ba [124,124]]
 | 1=>[ba [38,38]]
 | 2=>[ba [61,61],ba [33,61],ba [60],ba [60,61],ba [62],ba [62,61]]
 | 3=>[ba [43],ba [45]]
 | _=>[ba [42],ba [47],ba [37]]
structure LevAt (w:World)(lim:Nat):Prop where
 glt:0<lim
 gw:0<w.heap.size
 row:∀i,i<5→∃ao b off c,w.cell? ⟨0,i,none⟩=some (.slice ao (sgn i).length c)∧Strs w ao b off (sgn i)∧b<lim
theorem LevAt.keeps {w w':World}{lim:Nat}(h:LevAt w lim)(hz:w.heap.size≤w'.heap.size)(hb:∀b,b<lim→w'.heap[b]? =w.heap[b]?):LevAt w' lim:=by
 refine⟨h.glt,Nat.lt_of_lt_of_le h.gw hz,fun i hi=> ?_⟩
 obtain⟨ao,b,off,c,h1,h2,h3⟩:=h.row i hi
 refine⟨ao,b,off,c,(World.cell?_of_block (a:=⟨_,i,none⟩) (hb _ h.glt)).trans h1,⟨h2.adr,fun k hk=>(World.cell?_of_block (a:=⟨b,_,none⟩) (hb b h3)).trans (h2.cell k hk),fun hp=>Nat.lt_of_lt_of_le (h2.lt hp) hz⟩,h3⟩
theorem LevAt.mono {w:World}{lim lim':Nat}(h:LevAt w lim)(hl:lim≤lim'):LevAt w lim':=
 ⟨Nat.lt_of_lt_of_le h.glt hl,h.gw,fun i hi=>by obtain⟨ao,b,off,c,h1,h2,h3⟩:=h.row i hi;exact⟨ao,b,off,c,h1,h2,by omega⟩⟩
theorem has_sgn (s:ByteArray)(i:Nat):Act.has (sgn i) s=decide (s.data.toList∈(sgn i).map (·.data.toList)):=by
 rw[Bool.eq_iff_iff,Act.has_iff,decide_eq_true_iff,List.mem_map]
 refine⟨fun h=>⟨s,h,rfl⟩,fun⟨t,ht,e⟩=> ?_⟩
 have:t=s:=ByteArray.ext (Array.ext' e)
 rw[←this];exact ht
theorem lev_of (s:ByteArray):levF s.data.toList=if Act.has (sgn 0) s=true then 1 else if Act.has (sgn 1) s=true then 2 else if Act.has (sgn 2) s=true then 3 else if Act.has (sgn 3) s=true then 4 else if Act.has (sgn 4) s=true then 5 else 0:=by
 simp only[has_sgn,decide_eq_true_eq]
 rfl
theorem ixL0 (a b c d e:Value)(w:World):(Instr.index 55 (.agg #[a,b,c,d,e]) (.int .i64 0)).run Tryz.prog w=.ok a w:=by kernel_rfl
theorem ixL1 (a b c d e:Value)(w:World):(Instr.index 55 (.agg #[a,b,c,d,e]) (.int .i64 1)).run Tryz.prog w=.ok b w:=by kernel_rfl
theorem ixL2 (a b c d e:Value)(w:World):(Instr.index 55 (.agg #[a,b,c,d,e]) (.int .i64 2)).run Tryz.prog w=.ok c w:=by kernel_rfl
theorem ixL3 (a b c d e:Value)(w:World):(Instr.index 55 (.agg #[a,b,c,d,e]) (.int .i64 3)).run Tryz.prog w=.ok d w:=by kernel_rfl
theorem ixL4 (a b c d e:Value)(w:World):(Instr.index 55 (.agg #[a,b,c,d,e]) (.int .i64 4)).run Tryz.prog w=.ok e w:=by kernel_rfl
theorem levelC {w:World}{lim:Nat}(h:LevAt w lim)(s:ByteArray):
 Calls Tryz.prog 9 #[.string s] w fun x w'=>x=.returned (.int .i64 (levF s.data.toList:Nat))∧w'=w:=by
 obtain⟨a0,b0,f0,c0,k0,s0,_⟩:=h.row 0 (by omega)
 obtain⟨a1,b1,f1,c1,k1,s1,_⟩:=h.row 1 (by omega)
 obtain⟨a2,b2,f2,c2,k2,s2,_⟩:=h.row 2 (by omega)
 obtain⟨a3,b3,f3,c3,k3,s3,_⟩:=h.row 3 (by omega)
 obtain⟨a4,b4,f4,c4,k4,s4,_⟩:=h.row 4 (by omega)
 have n0:=contains_any a0 b0 f0 _ c0 (sgn 0) s w rfl (by decide) s0
 have n1:=contains_any a1 b1 f1 _ c1 (sgn 1) s w rfl (by decide) s1
 have n2:=contains_any a2 b2 f2 _ c2 (sgn 2) s w rfl (by decide) s2
 have n3:=contains_any a3 b3 f3 _ c3 (sgn 3) s w rfl (by decide) s3
 have n4:=contains_any a4 b4 f4 _ c4 (sgn 4) s w rfl (by decide) s4
 have hl:=lev_of s
 have hg:=h.gw
 obtain⟨L,hL⟩:∃L,L=levF s.data.toList:=⟨_,rfl⟩
 rw[←hL] at hl⊢
 obtain⟨t0,e0⟩:∃t,t=Act.has (sgn 0) s:=⟨_,rfl⟩
 obtain⟨t1,e1⟩:∃t,t=Act.has (sgn 1) s:=⟨_,rfl⟩
 obtain⟨t2,e2⟩:∃t,t=Act.has (sgn 2) s:=⟨_,rfl⟩
 obtain⟨t3,e3⟩:∃t,t=Act.has (sgn 3) s:=⟨_,rfl⟩
 obtain⟨t4,e4⟩:∃t,t=Act.has (sgn 4) s:=⟨_,rfl⟩
 rw[←e0,←e1,←e2,←e3,←e4] at hl
 rw[←e0] at n0
 rw[←e1] at n1
 rw[←e2] at n2
 rw[←e3] at n3
 rw[←e4] at n4
 have HL:Hid (L=if t0=true then 1 else if t1=true then 2 else if t2=true then 3 else if t3=true then 4 else if t4=true then 5 else 0):=hl
 clear hL e0 e1 e2 e3 e4 hl h s0 s1 s2 s3 s4
 go_enter Tryz.func9,Tryz.ntmps9
 go_wp2
 go_loop [6] (fun i=>∃k:Nat,k≤5∧i=.int .i64 k∧Hid ((0<k→t0=false)∧(1<k→t1=false)∧(2<k→t2=false)∧(3<k→t3=false)∧(4<k→t4=false))) (fun i=>5 - (intOf i).toNat)
 case atStart=>exact⟨0,by omega,rfl,by refine⟨?_,?_,?_,?_,?_⟩<;>intro h<;>omega⟩
 case round=>
  obtain⟨k,hk,rfl,HK⟩:=hrel
  match k,hk with
  | 0,_=>
   have hx:=ixL0
   cases hq:t0 with
   | true=>
    rw[hq] at n0
    have HF:Hid (L=1):=by show _=_;rw[HL.out];simp[hq]
    clear n1 n2 n3 n4 HK hq
    go_wp2_with fail
    refine n0.mono ?_
    rintro x w' ⟨rfl,rfl⟩
    go_wp2
    go_ret
    exact⟨by rw[HF.out];rfl,rfl⟩
   | false=>
    rw[hq] at n0
    have HN:Hid ((0<1→t0=false)∧(1<1→t1=false)∧(2<1→t2=false)∧(3<1→t3=false)∧(4<1→t4=false)):=by
     refine⟨?_,?_,?_,?_,?_⟩<;>intro hh<;>first | omega | assumption
    clear n1 n2 n3 n4 HK hq
    go_wp2_with fail
    refine n0.mono ?_
    rintro x w' ⟨rfl,rfl⟩
    go_wp2
    go_round
    case rel=>exact⟨1,by omega,by go_num,by obtain⟨r0,r1,r2,r3,r4⟩:=HN.out;exact⟨fun h=>by first | trivial | exact r0 h,fun h=>by first | trivial | exact r1 h,fun h=>by first | trivial | exact r2 h,fun h=>by first | trivial | exact r3 h,fun h=>by first | trivial | exact r4 h⟩⟩
    case measure=>simp[intOf]
  | 1,_=>
   have q0:t0=false:=HK.out.1 (by omega)
   have hx:=ixL1
   cases hq:t1 with
   | true=>
    rw[hq] at n1
    have HF:Hid (L=2):=by show _=_;rw[HL.out];simp[q0,hq]
    clear n0 n2 n3 n4 HK hq
    go_wp2_with fail
    refine n1.mono ?_
    rintro x w' ⟨rfl,rfl⟩
    go_wp2
    go_ret
    exact⟨by rw[HF.out];rfl,rfl⟩
   | false=>
    rw[hq] at n1
    have HN:Hid ((0<2→t0=false)∧(1<2→t1=false)∧(2<2→t2=false)∧(3<2→t3=false)∧(4<2→t4=false)):=by
     refine⟨?_,?_,?_,?_,?_⟩<;>intro hh<;>first | omega | assumption
    clear n0 n2 n3 n4 HK hq
    go_wp2_with fail
    refine n1.mono ?_
    rintro x w' ⟨rfl,rfl⟩
    go_wp2
    go_round
    case rel=>exact⟨2,by omega,by go_num,by obtain⟨r0,r1,r2,r3,r4⟩:=HN.out;exact⟨fun h=>by first | trivial | exact r0 h,fun h=>by first | trivial | exact r1 h,fun h=>by first | trivial | exact r2 h,fun h=>by first | trivial | exact r3 h,fun h=>by first | trivial | exact r4 h⟩⟩
    case measure=>simp[intOf]
  | 2,_=>
   have q0:t0=false:=HK.out.1 (by omega)
   have q1:t1=false:=HK.out.2.1 (by omega)
   have hx:=ixL2
   cases hq:t2 with
   | true=>
    rw[hq] at n2
    have HF:Hid (L=3):=by show _=_;rw[HL.out];simp[q0,q1,hq]
    clear n0 n1 n3 n4 HK hq
    go_wp2_with fail
    refine n2.mono ?_
    rintro x w' ⟨rfl,rfl⟩
    go_wp2
    go_ret
    exact⟨by rw[HF.out];rfl,rfl⟩
   | false=>
    rw[hq] at n2
    have HN:Hid ((0<3→t0=false)∧(1<3→t1=false)∧(2<3→t2=false)∧(3<3→t3=false)∧(4<3→t4=false)):=by
     refine⟨?_,?_,?_,?_,?_⟩<;>intro hh<;>first | omega | assumption
    clear n0 n1 n3 n4 HK hq
    go_wp2_with fail
    refine n2.mono ?_
    rintro x w' ⟨rfl,rfl⟩
    go_wp2
    go_round
    case rel=>exact⟨3,by omega,by go_num,by obtain⟨r0,r1,r2,r3,r4⟩:=HN.out;exact⟨fun h=>by first | trivial | exact r0 h,fun h=>by first | trivial | exact r1 h,fun h=>by first | trivial | exact r2 h,fun h=>by first | trivial | exact r3 h,fun h=>by first | trivial | exact r4 h⟩⟩
    case measure=>simp[intOf]
  | 3,_=>
   have q0:t0=false:=HK.out.1 (by omega)
   have q1:t1=false:=HK.out.2.1 (by omega)
   have q2:t2=false:=HK.out.2.2.1 (by omega)
   have hx:=ixL3
   cases hq:t3 with
   | true=>
    rw[hq] at n3
    have HF:Hid (L=4):=by show _=_;rw[HL.out];simp[q0,q1,q2,hq]
    clear n0 n1 n2 n4 HK hq
    go_wp2_with fail
    refine n3.mono ?_
    rintro x w' ⟨rfl,rfl⟩
    go_wp2
    go_ret
    exact⟨by rw[HF.out];rfl,rfl⟩
   | false=>
    rw[hq] at n3
    have HN:Hid ((0<4→t0=false)∧(1<4→t1=false)∧(2<4→t2=false)∧(3<4→t3=false)∧(4<4→t4=false)):=by
     refine⟨?_,?_,?_,?_,?_⟩<;>intro hh<;>first | omega | assumption
    clear n0 n1 n2 n4 HK hq
    go_wp2_with fail
    refine n3.mono ?_
    rintro x w' ⟨rfl,rfl⟩
    go_wp2
    go_round
    case rel=>exact⟨4,by omega,by go_num,by obtain⟨r0,r1,r2,r3,r4⟩:=HN.out;exact⟨fun h=>by first | trivial | exact r0 h,fun h=>by first | trivial | exact r1 h,fun h=>by first | trivial | exact r2 h,fun h=>by first | trivial | exact r3 h,fun h=>by first | trivial | exact r4 h⟩⟩
    case measure=>simp[intOf]
  | 4,_=>
   have q0:t0=false:=HK.out.1 (by omega)
   have q1:t1=false:=HK.out.2.1 (by omega)
   have q2:t2=false:=HK.out.2.2.1 (by omega)
   have q3:t3=false:=HK.out.2.2.2.1 (by omega)
   have hx:=ixL4
   cases hq:t4 with
   | true=>
    rw[hq] at n4
    have HF:Hid (L=5):=by show _=_;rw[HL.out];simp[q0,q1,q2,q3,hq]
    clear n0 n1 n2 n3 HK hq
    go_wp2_with fail
    refine n4.mono ?_
    rintro x w' ⟨rfl,rfl⟩
    go_wp2
    go_ret
    exact⟨by rw[HF.out];rfl,rfl⟩
   | false=>
    rw[hq] at n4
    have HN:Hid ((0<5→t0=false)∧(1<5→t1=false)∧(2<5→t2=false)∧(3<5→t3=false)∧(4<5→t4=false)):=by
     refine⟨?_,?_,?_,?_,?_⟩<;>intro hh<;>first | omega | assumption
    clear n0 n1 n2 n3 HK hq
    go_wp2_with fail
    refine n4.mono ?_
    rintro x w' ⟨rfl,rfl⟩
    go_wp2
    go_round
    case rel=>exact⟨5,by omega,by go_num,by obtain⟨r0,r1,r2,r3,r4⟩:=HN.out;exact⟨fun h=>by first | trivial | exact r0 h,fun h=>by first | trivial | exact r1 h,fun h=>by first | trivial | exact r2 h,fun h=>by first | trivial | exact r3 h,fun h=>by first | trivial | exact r4 h⟩⟩
    case measure=>simp[intOf]
  | 5,_=>
   have q0:t0=false:=HK.out.1 (by omega)
   have q1:t1=false:=HK.out.2.1 (by omega)
   have q2:t2=false:=HK.out.2.2.1 (by omega)
   have q3:t3=false:=HK.out.2.2.2.1 (by omega)
   have q4:t4=false:=HK.out.2.2.2.2 (by omega)
   have HF:Hid (L=0):=by show _=_;rw[HL.out];simp[q0,q1,q2,q3,q4]
   clear n0 n1 n2 n3 n4 HK
   go_wp2
   go_ret
   exact⟨by rw[HF.out];rfl,rfl⟩
end Go.Proofs.YtepkhlpjgnckkaaGreatDoor
