/- scope: chanHead. And more of the same. -/
import Derived.Test.YtepkhlpjgnckkaaGreatDoorZB0
import Derived.Lib.Join
import Derived.Lib.ItoaNum
namespace Go.Proofs.YtepkhlpjgnckkaaGreatDoor
set_option maxRecDepth 100000
set_option maxHeartbeats 8000000
open Go.RowKit
open Par (Tr Stm Prm Chn Prc Prg Po ba)
theorem tstCh {w:World}{bb cb off:Nat}{s nm:ByteArray}{x0 x2 x3 x4:Value}(h:w.heap[bb]? =some (.cells #[.pointer (some ⟨cb,off,none⟩)] 203 (0,0)))(hn:w.cell? ⟨cb,off+1,none⟩=some (.string nm))(hc:cb<w.heap.size):Calls Tryz.prog 120 #[.agg #[x0,.string s,x2,x3,x4],.pointer (some ⟨bb,0,none⟩)] w fun x w'=>x=.returned (.bool (decide (s=nm)))∧Below w.heap.size w w':=by
 have e0:w.cell? ⟨bb,0,none⟩=some (.pointer (some ⟨cb,off,none⟩)):=cl h 0 rfl
 have hl:=lt_of_block h
 have hq:=beq_dec s nm
 clear h
 go_enter Tryz.func120,Tryz.ntmps120
 go_wp2
 go_quiet ((fail))
 go_wp2
 go_ret
 exact⟨by simp,((Below.refl _ _).alloc (Nat.le_refl _) _).trans ⟨rfl,rfl,rfl,Nat.le_refl _,fun _ _=>rfl⟩⟩
theorem chanHeadK {w0 w:World}{L kb pb:Nat}{X:Nat→Prop}{P:Prg}{vs vk:Sk.Vs}{f:Nat}{u:Bool}{N:Nat}{cv av nv qv:Value}(hB:Lb w0 L pb P cv av nv qv)(h:Lk w0 w L kb pb X P vs vk f u N){i:Nat}(hi:i<P.chans.length)(hne:∀j (hj:j<i),P.chans[j].name≠P.chans[i].name)(hl:checkL P.chiefs P.acts P.chans[i].lab=0):
 Calls Tryz.prog 86 #[.pointer (some ⟨kb,0,none⟩),.int .i64 (i:Nat)] w fun x w'=>x=.returned (.tuple #[])∧Below w.heap.size w w':=by
 have hmf:=mkF
 obtain⟨_,_,_,_,hcs,_,_,⟨css,⟨ao,b,off,c,rfl,hr⟩,hc1,hk⟩,_⟩:=hB.is
 simp only[List.cons.injEq,and_true] at hcs
 obtain⟨rfl,rfl,rfl,rfl⟩:=hcs
 have HLK:=hidq h
 obtain⟨vo,vc,mk,ma,mr,K,hE⟩:=h
 have hrw:=hr.keeps (kbase hE.bel)
 have hic:i<css.length:=by omega
 have hnm:∀k (h1:k<css.length) (h2:k<P.chans.length),∃x2 x4,css[k]=[.int .i64 P.chans[k].at_,.string P.chans[k].name,x2,.int .i64 P.chans[k].type,x4]∧LabV w0 (fun b=>b<L) x4 P.chans[k].lab:=fun k h1 h2=>by
  obtain⟨lv,h3,_,h4⟩:=hk k h2 h1
  exact⟨_,_,h3,h4⟩
 obtain⟨x2,lv,hci,hlv⟩:=hnm i hic hi
 have a0:=hrw.cell i hic 0 _ (by rw[hci];rfl)
 have a1:=hrw.cell i hic 1 _ (by rw[hci];rfl)
 have a4:=hrw.cell i hic 4 _ (by rw[hci];rfl)
 simp only[Nat.add_zero] at a0
 obtain⟨lo,lc,rfl⟩:=hlv.val
 obtain⟨t,ht⟩:∃t:Array Value→Bool,t=fun x=>match (x[1]? :Option Value) with | some (.string a)=>decide (a=P.chans[i].name)| _=>false:=⟨_,rfl⟩
 have htv:∀x0 a x2 x3 x4,t #[x0,.string a,x2,x3,x4]=decide (a=P.chans[i].name):=fun _ _ _ _ _=>by rw[ht];rfl
 have hadr:=hr.adr (by omega)
 have hbl:=hrw.lt (by omega)
 obtain⟨w1,hw1⟩:∃w1,w1=w.alloc (.cells #[.pointer (some ⟨b,off+i*5,none⟩)] 203):=⟨_,rfl⟩
 have hb1:=al1 hw1
 have HT1:Hid (w1.heap[w.heap.size]? =some (.cells #[.pointer (some ⟨b,off+i*5,none⟩)] 203 (0,0))):=aa hw1
 have HCF:Hid (∀W,Below w1.heap.size w1 W→Calls Tryz.prog 119 #[.slice ao i c,.func (.func 120) #[] #[.pointer (some ⟨w.heap.size,0,none⟩)]] W fun e w'=>e=.returned (.bool false)∧Below w1.heap.size w1 w'):=fun W hW=>by
  have hWW:=bu hb1 hW
  have h1:=containsFuncC 120 #[.pointer (some ⟨w.heap.size,0,none⟩)] (enters_of Tryz.func120 (by kernel_rfl) rfl) t ao b off i c ((css.map List.toArray).take i) W (by simp;omega) (by have:=hB.few.1;omega) ((hrw.rws.later hWW).take i) (fun W2 x hx hW2=>by
   obtain⟨k,hk1,rfl⟩:=List.mem_iff_getElem.1 hx
   simp at hk1
   simp only[List.getElem_take,List.getElem_map]
   obtain⟨x2,x4,e,_⟩:=hnm k (by omega) (by omega)
   rw[e]
   show Calls _ _ _ _ fun e w'=>e=.returned (.bool (t #[_,.string P.chans[k].name,_,_,_]))∧_
   rw[htv]
   have hb2:=bu hWW hW2
   exact tstCh (ku (hW.trans (hW2.mono hW.size)) HT1.out) ((hb2.cell (p:=⟨b,off+i*5+1,none⟩) hbl).trans a1) (Nat.lt_of_lt_of_le hbl hb2.size))
  have hany:((css.map List.toArray).take i).any t=false:=by
   rw[List.any_eq_false]
   intro x hx
   obtain⟨k,hk1,rfl⟩:=List.mem_iff_getElem.1 hx
   simp at hk1
   simp only[List.getElem_take,List.getElem_map]
   obtain⟨x2,x4,e,_⟩:=hnm k (by omega) (by omega)
   rw[e]
   show ¬t #[_,.string P.chans[k].name,_,_,_]=true
   rw[htv]
   simpa using hne k (by omega)
  rw[hany] at h1
  exact h1.mono fun e w' ⟨h1,h2⟩=>⟨h1,bu hW h2⟩
 have HLA:Hid (∀W,Below w.heap.size w W→Calls Tryz.prog 121 #[.pointer (some ⟨kb,0,none⟩),.slice lo P.chans[i].lab.length lc,.int .i64 P.chans[i].at_] W fun x w'=>x=.returned (.tuple #[])∧Below W.heap.size W w'):=fun W hW=>labelK hB (HLK.out.later hW).1 hlv hl _
 have z0:=hE.cells.1
 have zl:=hE.cells.2.2.2.2.2.2.1
 have hpw:w.heap[pb]? =w0.heap[pb]? :=hE.bel.block pb hB.pl
 have y2:w.cell? ⟨pb,2,none⟩=some (.slice ao css.length c):=cl (hpw.trans hB.blk) 2 rfl
 have yl:=lt_of_block (hpw.trans hB.blk)
 have hcap:=hr.cap
 have hmx:=hr.mx
 unfold maxLen at hmx
 have hti:=fun p w=>tellIfC 6 p w
 obtain⟨n,hn⟩:∃n,n=css.length:=⟨_,rfl⟩
 rw[←hn] at y2 hcap
 have hin:i<n:=by omega
 obtain⟨at_,hat_⟩:∃x,x=P.chans[i].at_:=⟨_,rfl⟩
 rw[←hat_] at a0 HLA
 obtain⟨ln,hln⟩:∃x,x=P.chans[i].lab.length:=⟨_,rfl⟩
 rw[←hln] at a4 HLA
 obtain⟨nm,hnm2⟩:∃x,x=P.chans[i].name:=⟨_,rfl⟩
 rw[←hnm2] at a1
 have HCC:Hid (∀W,Below w.heap.size w W→W.cell? ⟨kb,0,none⟩=some (.pointer (some ⟨pb,0,none⟩))∧W.cell? ⟨pb,2,none⟩=some (.slice ao n c)∧W.cell? ⟨b,off+i*5,none⟩=some (.int .i64 at_)∧W.cell? ⟨b,off+i*5+4,none⟩=some (.slice lo ln lc)∧kb<W.heap.size∧pb<W.heap.size∧b<W.heap.size):=fun W hW=>⟨(hW.cell (p:=⟨kb,0,none⟩) zl).trans z0,(hW.cell (p:=⟨pb,2,none⟩) yl).trans y2,(hW.cell (p:=⟨b,off+i*5,none⟩) hbl).trans a0,(hW.cell (p:=⟨b,off+i*5+4,none⟩) hbl).trans a4,Nat.lt_of_lt_of_le zl hW.size,Nat.lt_of_lt_of_le yl hW.size,Nat.lt_of_lt_of_le hbl hW.size⟩
 have HB1:=hidq hb1
 clear hB hE hr hrw hk hnm hci hlv ht htv hb1 hpw hn hat_ hln hnm2 hne hl hi hic hc1
 subst hadr
 go_enter Tryz.func86,Tryz.ntmps86
 go_upto_region 1 with fail
 rw[←hw1]
 clear hw1
 obtain⟨d0,d2,d3,d4,dk,dp,db⟩:=HCC.out w1 HB1.out
 have t0:=cl HT1.out 0 rfl
 have tl:=lt_of_block HT1.out
 have hic2:(i:Int)≤(c:Int):=by omega
 have hic3:i≤c:=by omega
 clear z0 zl y2 yl a0 a1 a4 hbl
 go_region_held3 (fun W=>W.cell? ⟨kb,0,none⟩=some (.pointer (some ⟨pb,0,none⟩))∧W.cell? ⟨pb,2,none⟩=some (.slice (some ⟨b,off,none⟩) n c)∧W.cell? ⟨b,off+i*5,none⟩=some (.int .i64 at_)∧W.cell? ⟨w.heap.size,0,none⟩=some (.pointer (some ⟨b,off+i*5,none⟩))) (go_keep)
  (first
    |(go_at_call 119;refine(HCF.out _ (by exact⟨rfl,rfl,rfl,Nat.le_refl _,fun _ _=>rfl⟩)).mono ?_;rintro x w2 ⟨rfl,hb2⟩;have HB2:=hidq (bu HB1.out hb2);obtain⟨e0,e2,e3,e4,ek,ep,eb⟩:=HCC.out w2 HB2.out;have hT2:=ku hb2 HT1.out;have s0:=cl hT2 0 rfl;have sl:=lt_of_block hT2;have HT2:=hidq hT2;clear hb2 hT2)
    |(go_at_call 90;refine(hti _ _).mono ?_;rintro x w3 ⟨rfl,hw3⟩;have hw3':=hw3.symm;subst hw3';clear hw3))
 go_wp2
 go_region_held3 (fun W=>W.cell? ⟨w.heap.size,0,none⟩=some (.pointer (some ⟨b,off+i*5,none⟩))∧W.cell? ⟨b,off+i*5,none⟩=some (.int .i64 at_)∧W.cell? ⟨b,off+i*5+4,none⟩=some (.slice lo ln lc)) (go_keep)
  (first
    |(go_at_call 121;refine(HLA.out _ (bu HB2.out (by exact⟨rfl,rfl,rfl,Nat.le_refl _,fun _ _=>rfl⟩))).mono ?_;rintro x w4 ⟨rfl,hb4⟩;have hb5:Below w2.heap.size w2 w4:=bu (by exact⟨rfl,rfl,rfl,Nat.le_refl _,fun _ _=>rfl⟩) hb4;have HB4:=hidq (bu HB2.out hb5);obtain⟨g0,g2,g3,g4,gk,gp,gb⟩:=HCC.out w4 HB4.out;have q0:=cl (ku hb5 HT2.out) 0 rfl))
 go_wp2
 go_end0
 exact⟨rfl,HB4.out⟩
theorem tstPh {w:World}{bb cb off:Nat}{s nm:ByteArray}{x0 x2 x3 x4 x5 x6 x7 x8:Value}(h:w.heap[bb]? =some (.cells #[.pointer (some ⟨cb,off,none⟩)] 67 (0,0)))(hn:w.cell? ⟨cb,off+1,none⟩=some (.string nm))(hc:cb<w.heap.size):Calls Tryz.prog 123 #[.agg #[x0,.string s,x2,x3,x4,x5,x6,x7,x8],.pointer (some ⟨bb,0,none⟩)] w fun x w'=>x=.returned (.bool (decide (s=nm)))∧Below w.heap.size w w':=by
 have e0:w.cell? ⟨bb,0,none⟩=some (.pointer (some ⟨cb,off,none⟩)):=cl h 0 rfl
 have hl:=lt_of_block h
 have hq:=beq_dec s nm
 clear h
 go_enter Tryz.func123,Tryz.ntmps123
 go_wp2
 go_quiet ((fail))
 go_wp2
 go_ret
 exact⟨by simp,((Below.refl _ _).alloc (Nat.le_refl _) _).trans ⟨rfl,rfl,rfl,Nat.le_refl _,fun _ _=>rfl⟩⟩
theorem tstPm {w:World}{bb:Nat}{s nm:ByteArray}{x1 x2 y1 y2:Value}(h:w.heap[bb]? =some (.cells #[.string nm,y1,y2] 85 (0,0))):Calls Tryz.prog 124 #[.agg #[.string s,x1,x2],.pointer (some ⟨bb,0,none⟩)] w fun x w'=>x=.returned (.bool (decide (s=nm)))∧Below w.heap.size w w':=by
 have e0:w.cell? ⟨bb,0,none⟩=some (.string nm):=cl h 0 rfl
 have hl:=lt_of_block h
 have hq:=beq_dec s nm
 clear h
 go_enter Tryz.func124,Tryz.ntmps124
 go_wp2
 go_ret
 exact⟨by simp,(Below.refl _ _).alloc (Nat.le_refl _) _⟩
theorem any_none {t:Array Value→Bool}{ls:List (Array Value)}(h:∀x∈ls,t x=false):ls.any t=false:=by
 rw[List.any_eq_false]
 intro x hx
 rw[h x hx]
 simp
theorem procHeadK {w0 w:World}{L kb pb:Nat}{X:Nat→Prop}{P:Prg}{vs vk:Sk.Vs}{f:Nat}{u:Bool}{N:Nat}{cv av nv qv:Value}(hB:Lb w0 L pb P cv av nv qv)(h:Lk w0 w L kb pb X P vs vk f u N){i:Nat}(hi:i<P.procs.length)(hne:∀j (hj:j<i),P.procs[j].name≠P.procs[i].name)(hpl:P.procs[i].params.length≤900)(hpn:∀j (hj:j<P.procs[i].params.length),(∀k (hk:k<j),P.procs[i].params[k].name≠P.procs[i].params[j].name)∧checkL P.chiefs P.acts P.procs[i].params[j].lab=0)(hrl:checkL P.chiefs P.acts P.procs[i].result.lab=0)(hbl:checkL P.chiefs P.acts P.procs[i].begin_=0)(hfo:P.procs[i].for_=[]):
 Calls Tryz.prog 87 #[.pointer (some ⟨kb,0,none⟩),.int .i64 (i:Nat)] w fun x w'=>x=.returned (.tuple #[])∧Below w.heap.size w w':=by
 have hmf:=mkF
 obtain⟨_,_,_,_,hcs,_,_,_,css,⟨ao,b,off,c,rfl,hr⟩,hc1,hk⟩:=hB.is
 simp only[List.cons.injEq,and_true] at hcs
 obtain⟨rfl,rfl,rfl,rfl⟩:=hcs
 have HLK:=hidq h
 obtain⟨vo,vc,mk,ma,mr,K,hE⟩:=h
 have hrw:=hr.keeps (kbase hE.bel)
 have hic:i<css.length:=by omega
 have hnm:∀k (h1:k<css.length) (h2:k<P.procs.length),∃x0 x2 x3 x4 x5 x6 x7 x8,css[k]=[x0,.string P.procs[k].name,x2,x3,x4,x5,x6,x7,x8]:=fun k h1 h2=>by
  obtain⟨pv,rl,bv,fv,yv,h3,_⟩:=hk k h2 h1
  exact⟨_,_,_,_,_,_,_,_,h3⟩
 obtain⟨q,hq⟩:∃q,q=P.procs[i]:=⟨_,rfl⟩
 have hki:=hk i hi hic
 rw[←hq] at hki hpl hrl hbl hfo
 have hpn':∀j (hj:j<q.params.length),(∀k (hk:k<j),q.params[k].name≠q.params[j].name)∧checkL P.chiefs P.acts q.params[j].lab=0:=by
  subst hq
  exact hpn
 have hne':∀j (hj:j<i),P.procs[j].name≠q.name:=by
  subst hq
  exact hne
 obtain⟨pv,rl,bv,fv,yv,hci,_,_,hpar,hrlv,hblv,hfor,_⟩:=hki
 obtain⟨pss,⟨po,qb,qoff,qc,rfl,hprow⟩,hplen,hpk⟩:=hpar
 obtain⟨ro,rc,rfl⟩:=hrlv.val
 obtain⟨bo,bc,rfl⟩:=hblv.val
 obtain⟨fo,fc,rfl⟩:=hfor.row.val
 rw[hfo] at hci
 have a0:=hrw.cell i hic 0 _ (by rw[hci];rfl)
 have a1:=hrw.cell i hic 1 _ (by rw[hci];rfl)
 have a2:=hrw.cell i hic 2 _ (by rw[hci];rfl)
 have a5:=hrw.cell i hic 5 _ (by rw[hci];rfl)
 have a6:=hrw.cell i hic 6 _ (by rw[hci];rfl)
 have a7:w.cell? ⟨b,off+i*9+7,none⟩=some (.slice fo 0 fc):=hrw.cell i hic 7 _ (by rw[hci];rfl)
 simp only[Nat.add_zero] at a0
 obtain⟨t,ht⟩:∃t:ByteArray→Array Value→Bool,t=fun nm x=>match (x[1]? :Option Value) with | some (.string a)=>decide (a=nm)| _=>false:=⟨_,rfl⟩
 have htv:∀nm x0 a x2 x3 x4 x5 x6 x7 x8,t nm #[x0,.string a,x2,x3,x4,x5,x6,x7,x8]=decide (a=nm):=fun _ _ _ _ _ _ _ _ _ _=>by rw[ht];rfl
 obtain⟨tm,htm⟩:∃t:ByteArray→Array Value→Bool,t=fun nm x=>match (x[0]? :Option Value) with | some (.string a)=>decide (a=nm)| _=>false:=⟨_,rfl⟩
 have htmv:∀nm a x1 x2,tm nm #[.string a,x1,x2]=decide (a=nm):=fun _ _ _ _=>by rw[htm];rfl
 have hadr:=hr.adr (by omega)
 have hbl':=hrw.lt (by omega)
 have hprw:=hprow.keeps (kbase hE.bel)
 obtain⟨w1,hw1⟩:∃w1,w1=w.alloc (.cells #[.pointer (some ⟨b,off+i*9,none⟩)] 67):=⟨_,rfl⟩
 have hb1:=al1 hw1
 have HT1:Hid (w1.heap[w.heap.size]? =some (.cells #[.pointer (some ⟨b,off+i*9,none⟩)] 67 (0,0))):=aa hw1
 have HCF:Hid (∀W,Below w1.heap.size w1 W→Calls Tryz.prog 122 #[.slice ao i c,.func (.func 123) #[] #[.pointer (some ⟨w.heap.size,0,none⟩)]] W fun e w'=>e=.returned (.bool false)∧Below w1.heap.size w1 w'):=fun W hW=>by
  have hWW:=bu hb1 hW
  have h1:=containsFuncQ 123 #[.pointer (some ⟨w.heap.size,0,none⟩)] (enters_of Tryz.func123 (by kernel_rfl) rfl) (t q.name) ao b off i c ((css.map List.toArray).take i) W (by simp;omega) (by have:=hB.few.2;omega) ((hrw.rws.later hWW).take i) (fun W2 x hx hW2=>by
   obtain⟨k,hk1,rfl⟩:=List.mem_iff_getElem.1 hx
   simp at hk1
   simp only[List.getElem_take,List.getElem_map]
   obtain⟨x0,x2,x3,x4,x5,x6,x7,x8,e⟩:=hnm k (by omega) (by omega)
   rw[e]
   show Calls _ _ _ _ fun e w'=>e=.returned (.bool (t q.name #[_,.string P.procs[k].name,_,_,_,_,_,_,_]))∧_
   rw[htv]
   have hb2:=bu hWW hW2
   exact tstPh (ku (hW.trans (hW2.mono hW.size)) HT1.out) ((hb2.cell (p:=⟨b,off+i*9+1,none⟩) hbl').trans a1) (Nat.lt_of_lt_of_le hbl' hb2.size))
  have hany:((css.map List.toArray).take i).any (t q.name)=false:=any_none fun x hx=>by
   obtain⟨k,hk1,rfl⟩:=List.mem_iff_getElem.1 hx
   simp at hk1
   simp only[List.getElem_take,List.getElem_map]
   obtain⟨x0,x2,x3,x4,x5,x6,x7,x8,e⟩:=hnm k (by omega) (by omega)
   rw[e]
   show t q.name #[_,.string P.procs[k].name,_,_,_,_,_,_,_]=false
   rw[htv]
   exact decide_eq_false (hne' k (by omega))
  rw[hany] at h1
  exact h1.mono fun e w' ⟨h1,h2⟩=>⟨h1,bu hW h2⟩
 have HCM:Hid (∀(W:World) (j pb':Nat) (hj:j<q.params.length) (y1 y2:Value),Below w.heap.size w W→W.heap[pb']? =some (.cells #[.string q.params[j].name,y1,y2] 85 (0,0))→Calls Tryz.prog 79 #[.slice po j qc,.func (.func 124) #[] #[.pointer (some ⟨pb',0,none⟩)]] W fun e w'=>e=.returned (.bool false)∧Below W.heap.size W w'):=fun W j pb' hj y1 y2 hW hpb'=>by
  have hpnm:∀k (h1:k<pss.length) (h2:k<q.params.length),∃x1 x2,pss[k]=[.string q.params[k].name,x1,x2]:=fun k h1 h2=>by
   obtain⟨lv,e,_⟩:=hpk k h2 h1
   exact⟨_,_,e⟩
  have h1:=containsFuncM 124 #[.pointer (some ⟨pb',0,none⟩)] (enters_of Tryz.func124 (by kernel_rfl) rfl) (tm q.params[j].name) po qb qoff j qc ((pss.map List.toArray).take j) W (by simp;omega) (by omega) ((hprw.rws.later hW).take j) (fun W2 x hx hW2=>by
   obtain⟨k,hk1,rfl⟩:=List.mem_iff_getElem.1 hx
   simp at hk1
   simp only[List.getElem_take,List.getElem_map]
   obtain⟨x1,x2,e⟩:=hpnm k (by omega) (by omega)
   rw[e]
   show Calls _ _ _ _ fun e w'=>e=.returned (.bool (tm q.params[j].name #[.string q.params[k].name,_,_]))∧_
   rw[htmv]
   exact tstPm (ku hW2 hpb'))
  have hany:((pss.map List.toArray).take j).any (tm q.params[j].name)=false:=any_none fun x hx=>by
   obtain⟨k,hk1,rfl⟩:=List.mem_iff_getElem.1 hx
   simp at hk1
   simp only[List.getElem_take,List.getElem_map]
   obtain⟨x1,x2,e⟩:=hpnm k (by omega) (by omega)
   rw[e]
   show tm q.params[j].name #[.string q.params[k].name,_,_]=false
   rw[htmv]
   exact decide_eq_false ((hpn' j hj).1 k (by omega))
  rw[hany] at h1
  exact h1
 have HLA:Hid (∀(W:World) (lv:Value) (l:List Po),LabV w0 (fun b=>b<L) lv l→checkL P.chiefs P.acts l=0→Below w.heap.size w W→Calls Tryz.prog 121 #[.pointer (some ⟨kb,0,none⟩),lv,.int .i64 q.at_] W fun x w'=>x=.returned (.tuple #[])∧Below W.heap.size W w'):=fun W lv l h1 h2 hW=>labelK hB (HLK.out.later hW).1 h1 h2 _
 have HPC:Hid (∀(j:Nat) (hj:j<q.params.length),(po=some ⟨qb,qoff,none⟩∧qb<w.heap.size)∧∃lo lc,LabV w0 (fun b=>b<L) (.slice lo q.params[j].lab.length lc) q.params[j].lab∧w.cell? ⟨qb,qoff+j*3,none⟩=some (.string q.params[j].name)∧w.cell? ⟨qb,qoff+j*3+1,none⟩=some (.int .i64 q.params[j].type)∧w.cell? ⟨qb,qoff+j*3+2,none⟩=some (.slice lo q.params[j].lab.length lc)):=fun j hj=>by
  obtain⟨lv,e,_,hlv⟩:=hpk j hj (by omega)
  obtain⟨lo,lc,rfl⟩:=hlv.val
  exact⟨⟨hprow.adr (by omega),hprw.lt (by omega)⟩,lo,lc,hlv,hprw.cell j (by omega) 0 _ (by rw[e];rfl),hprw.cell j (by omega) 1 _ (by rw[e];rfl),hprw.cell j (by omega) 2 _ (by rw[e];rfl)⟩
 have HPN:=hidq hpn'
 have z0:=hE.cells.1
 have zl:=hE.cells.2.2.2.2.2.2.1
 have hpw:w.heap[pb]? =w0.heap[pb]? :=hE.bel.block pb hB.pl
 have y3:w.cell? ⟨pb,3,none⟩=some (.slice ao css.length c):=cl (hpw.trans hB.blk) 3 rfl
 have yl:=lt_of_block (hpw.trans hB.blk)
 have hcap:=hr.cap
 have hmx:=hr.mx
 have hpcap:=hprow.cap
 have hpmx:=hprow.mx
 unfold maxLen at hmx hpmx
 have hti:=fun p w=>tellIfC 6 p w
 obtain⟨n,hn⟩:∃n,n=css.length:=⟨_,rfl⟩
 rw[←hn] at y3 hcap
 have hin:i<n:=by omega
 obtain⟨pn,hpn2⟩:∃n,n=pss.length:=⟨_,rfl⟩
 rw[←hpn2] at a2 hpcap
 have HPL:Hid (pn=q.params.length):=by show _=_;omega
 have hpn900:pn≤900:=by omega
 obtain⟨rn,hrn⟩:∃n,n=q.result.lab.length:=⟨_,rfl⟩
 obtain⟨bn,hbn⟩:∃n,n=q.begin_.length:=⟨_,rfl⟩
 rw[←hrn] at a5
 rw[←hbn] at a6
 have HLR:Hid (∀W,Below w.heap.size w W→Calls Tryz.prog 121 #[.pointer (some ⟨kb,0,none⟩),.slice ro rn rc,.int .i64 q.at_] W fun x w'=>x=.returned (.tuple #[])∧Below W.heap.size W w'):=fun W hW=>by rw[hrn];exact HLA.out W _ _ hrlv hrl hW
 have HLB:Hid (∀W,Below w.heap.size w W→Calls Tryz.prog 121 #[.pointer (some ⟨kb,0,none⟩),.slice bo bn bc,.int .i64 q.at_] W fun x w'=>x=.returned (.tuple #[])∧Below W.heap.size W w'):=fun W hW=>by rw[hbn];exact HLA.out W _ _ hblv hbl hW
 obtain⟨at_,hat_⟩:∃x,x=q.at_:=⟨_,rfl⟩
 rw[←hat_] at a0 HLA HLR HLB
 have HCC:Hid (∀W,Below w.heap.size w W→W.cell? ⟨kb,0,none⟩=some (.pointer (some ⟨pb,0,none⟩))∧W.cell? ⟨pb,3,none⟩=some (.slice ao n c)∧W.cell? ⟨b,off+i*9,none⟩=some (.int .i64 at_)∧W.cell? ⟨b,off+i*9+2,none⟩=some (.slice po pn qc)∧W.cell? ⟨b,off+i*9+5,none⟩=some (.slice ro rn rc)∧W.cell? ⟨b,off+i*9+6,none⟩=some (.slice bo bn bc)∧W.cell? ⟨b,off+i*9+7,none⟩=some (.slice fo 0 fc)∧kb<W.heap.size∧pb<W.heap.size∧b<W.heap.size):=fun W hW=>⟨(hW.cell (p:=⟨kb,0,none⟩) zl).trans z0,(hW.cell (p:=⟨pb,3,none⟩) yl).trans y3,(hW.cell (p:=⟨b,off+i*9,none⟩) hbl').trans a0,(hW.cell (p:=⟨b,off+i*9+2,none⟩) hbl').trans a2,(hW.cell (p:=⟨b,off+i*9+5,none⟩) hbl').trans a5,(hW.cell (p:=⟨b,off+i*9+6,none⟩) hbl').trans a6,(hW.cell (p:=⟨b,off+i*9+7,none⟩) hbl').trans a7,Nat.lt_of_lt_of_le zl hW.size,Nat.lt_of_lt_of_le yl hW.size,Nat.lt_of_lt_of_le hbl' hW.size⟩
 have HB1:=hidq hb1
 clear hB hE hr hrw hk hnm hci ht htv htm htmv hb1 hpw hn hat_ hne hne' hpn hpn' hi hic hc1 hprow hprw hplen hpk hrlv hblv hrl hbl hpn2 hrn hbn hq hpl hfor hfo
 subst hadr
 go_enter Tryz.func87,Tryz.ntmps87
 go_upto_region 1 with fail
 rw[←hw1]
 clear hw1
 obtain⟨d0,d3,dt,d2,d5,d6,d7,dk,dp,db⟩:=HCC.out w1 HB1.out
 have t0:=cl HT1.out 0 rfl
 have tl:=lt_of_block HT1.out
 have hic2:(i:Int)≤(c:Int):=by omega
 have hic3:i≤c:=by omega
 clear z0 zl y3 yl a0 a1 a2 a5 a6 a7 hbl'
 go_region_held3 (fun W=>W.cell? ⟨kb,0,none⟩=some (.pointer (some ⟨pb,0,none⟩))∧W.cell? ⟨pb,3,none⟩=some (.slice (some ⟨b,off,none⟩) n c)∧W.cell? ⟨b,off+i*9,none⟩=some (.int .i64 at_)∧W.cell? ⟨w.heap.size,0,none⟩=some (.pointer (some ⟨b,off+i*9,none⟩))) (go_keep)
  (first
    |(go_at_call 122;refine(HCF.out _ (by exact⟨rfl,rfl,rfl,Nat.le_refl _,fun _ _=>rfl⟩)).mono ?_;rintro x w2 ⟨rfl,hb2⟩;have HB2:=hidq hb2;obtain⟨e0,e3,et,e2,e5,e6,e7,ek,ep,eb⟩:=HCC.out w2 (bu HB1.out hb2);have hT2:=ku hb2 HT1.out;have s0:=cl hT2 0 rfl;have sl:=lt_of_block hT2;clear hb2 hT2)
    |(go_at_call 90;refine(hti _ _).mono ?_;rintro x w3 ⟨rfl,hw3⟩;have hw3':=hw3.symm;subst hw3';clear hw3))
 clear d0 d3 dt d2 d5 d6 d7 dk dp db t0 tl
 go_wp2
 clear e0 e3 et e2 e5 e6 e7 ek ep eb s0 sl
 go_loopw [39] (fun i wr=>∃k:Nat,k≤pn∧i=.int .i64 k∧Hid (Below w1.heap.size w1 wr)) (fun i _=>pn - (intOf i).toNat)
 case atStart=>exact⟨0,Nat.zero_le _,rfl,HB2⟩
 case round=>
  clear HB2
  obtain⟨k,hk,rfl,HI⟩:=hrel
  by_cases hlt:k<pn
  ·have hkq:k<q.params.length:=by have:=HPL.out;omega
   obtain⟨⟨hpa,hql⟩,lo,lc,hlv,p0,p1,p2⟩:=HPC.out k hkq
   have hBw:=bu HB1.out HI.out
   have q0:=(hBw.cell (p:=⟨qb,qoff+k*3,none⟩) hql).trans p0
   have q1:=(hBw.cell (p:=⟨qb,qoff+k*3+1,none⟩) hql).trans p1
   have q2:=(hBw.cell (p:=⟨qb,qoff+k*3+2,none⟩) hql).trans p2
   have hqr:qb<wr.heap.size:=Nat.lt_of_lt_of_le hql hBw.size
   obtain⟨w5,hw5⟩:∃w5,w5=wr.alloc (.cells #[.string q.params[k].name,.int .i64 q.params[k].type,.slice lo q.params[k].lab.length lc] 85):=⟨_,rfl⟩
   have HB5:Hid (Below w1.heap.size w1 w5):=bu HI.out (al1 hw5)
   have HT5:Hid (w5.heap[wr.heap.size]? =some (.cells #[.string q.params[k].name,.int .i64 q.params[k].type,.slice lo q.params[k].lab.length lc] 85 (0,0))):=aa hw5
   have HCM5:Hid (∀W,Below w5.heap.size w5 W→Calls Tryz.prog 79 #[.slice po k qc,.func (.func 124) #[] #[.pointer (some ⟨wr.heap.size,0,none⟩)]] W fun e w'=>e=.returned (.bool false)∧Below w5.heap.size w5 w'):=fun W hW=>(HCM.out W k wr.heap.size hkq _ _ (bu HB1.out (bu HB5.out hW)) (ku hW HT5.out)).mono fun e w' ⟨h1,h2⟩=>⟨h1,bu hW h2⟩
   have HLA5:Hid (∀W,Below w5.heap.size w5 W→Calls Tryz.prog 121 #[.pointer (some ⟨kb,0,none⟩),.slice lo q.params[k].lab.length lc,.int .i64 at_] W fun x w'=>x=.returned (.tuple #[])∧Below w5.heap.size w5 w'):=fun W hW=>(HLA.out W _ _ hlv (HPN.out k hkq).2 (bu HB1.out (bu HB5.out hW))).mono fun e w' ⟨h1,h2⟩=>⟨h1,bu hW h2⟩
   obtain⟨nm,hnm⟩:∃x,x=q.params[k].name:=⟨_,rfl⟩
   obtain⟨pt,hpt⟩:∃x,x=q.params[k].type:=⟨_,rfl⟩
   obtain⟨ll,hll⟩:∃x,x=q.params[k].lab.length:=⟨_,rfl⟩
   rw[←hnm] at q0
   rw[←hpt] at q1
   rw[←hll] at q2 HLA5
   rw[←hnm,←hpt,←hll] at hw5 HT5
   obtain⟨_,_,et0,e20,_,_,_,_,_,eb0⟩:=HCC.out wr hBw
   have hT0:=ku HI.out HT1.out
   have s00:=cl hT0 0 rfl
   have sl0:=lt_of_block hT0
   clear hlv p0 p1 p2 hql hBw hnm hpt hll hT0
   subst hpa
   go_upto_region 5 with fail
   rw[←hw5]
   clear hw5 q0 q1 q2 hqr et0 e20 eb0 s00 sl0
   obtain⟨_,_,et,e2,_,_,_,_,_,eb⟩:=HCC.out w5 (bu HB1.out HB5.out)
   have hT5:=ku HB5.out HT1.out
   have s0:=cl hT5 0 rfl
   have sl:=lt_of_block hT5
   have g2:=cl HT5.out 2 rfl
   have gl:=lt_of_block HT5.out
   have hkc:(k:Int)≤(qc:Int):=by omega
   have hkc2:k≤qc:=by omega
   clear hT5
   go_region_held3 (fun W=>W.cell? ⟨b,off+i*9,none⟩=some (.int .i64 at_)∧W.cell? ⟨b,off+i*9+2,none⟩=some (.slice (some ⟨qb,qoff,none⟩) pn qc)∧W.cell? ⟨w.heap.size,0,none⟩=some (.pointer (some ⟨b,off+i*9,none⟩))) (go_keep)
    (first
      |(go_at_call 79;refine(HCM5.out _ (by exact⟨rfl,rfl,rfl,Nat.le_refl _,fun _ _=>rfl⟩)).mono ?_;rintro x w6 ⟨rfl,hb6⟩;have HB6:=hidq hb6;obtain⟨_,_,ft,f2,_,_,_,_,_,fb⟩:=HCC.out w6 (bu HB1.out (bu HB5.out hb6));have hT6:=ku hb6 (ku HB5.out HT1.out);have v0:=cl hT6 0 rfl;have vl:=lt_of_block hT6;have v2:=cl (ku hb6 HT5.out) 2 rfl;have vl2:=lt_of_block (ku hb6 HT5.out);clear hb6 hT6)
      |(go_at_call 90;refine(hti _ _).mono ?_;rintro x w7 ⟨rfl,hw7⟩;have hw7':=hw7.symm;subst hw7';clear hw7))
   clear et e2 eb s0 sl g2 gl
   go_wp2
   go_region_held3 (fun W=>W.cell? ⟨wr.heap.size,2,none⟩=some (.slice lo ll lc)∧W.cell? ⟨b,off+i*9,none⟩=some (.int .i64 at_)∧W.cell? ⟨w.heap.size,0,none⟩=some (.pointer (some ⟨b,off+i*9,none⟩))) (go_keep)
    (first
      |(go_at_call 121;refine(HLA5.out _ (bu HB6.out (by exact⟨rfl,rfl,rfl,Nat.le_refl _,fun _ _=>rfl⟩))).mono ?_;rintro x w8 ⟨rfl,hb8⟩;have HB8:=hidq hb8;obtain⟨_,_,gt,_,_,_,_,_,_,_⟩:=HCC.out w8 (bu HB1.out (bu HB5.out hb8));have hT8:=ku hb8 (ku HB5.out HT1.out);have u0:=cl hT8 0 rfl;have u2:=cl (ku hb8 HT5.out) 2 rfl;clear hb8 hT8))
   have HN:Hid (Below w1.heap.size w1 w8):=bu HB5.out HB8.out
   go_wp2
   go_roundw
   case rel=>exact⟨k+1,by omega,by go_num,HN⟩
   case measure=>simp[intOf];omega
  ·obtain rfl:k=pn:=by omega
   obtain⟨_,_,et,_,e5,e6,e7,_,_,eb⟩:=HCC.out wr (bu HB1.out HI.out)
   have hT5:=ku HI.out HT1.out
   have s0:=cl hT5 0 rfl
   have sl:=lt_of_block hT5
   have HTR:=hidq hT5
   clear hT5
   go_wp2
   go_region_held3 (fun W=>W.cell? ⟨b,off+i*9,none⟩=some (.int .i64 at_)∧W.cell? ⟨b,off+i*9+5,none⟩=some (.slice ro rn rc)∧W.cell? ⟨w.heap.size,0,none⟩=some (.pointer (some ⟨b,off+i*9,none⟩))) (go_keep)
    (first
      |(go_at_call 121;refine(HLR.out _ (bu HB1.out (bu HI.out (by exact⟨rfl,rfl,rfl,Nat.le_refl _,fun _ _=>rfl⟩)))).mono ?_;rintro x w6 ⟨rfl,hb6⟩;have hb7:Below wr.heap.size wr w6:=bu (by exact⟨rfl,rfl,rfl,Nat.le_refl _,fun _ _=>rfl⟩) hb6;have HB6:=hidq (bu HI.out hb7);obtain⟨_,_,ft,_,f5,f6,f7,_,_,fb⟩:=HCC.out w6 (bu HB1.out HB6.out);have hT6:=ku HB6.out HT1.out;have v0:=cl hT6 0 rfl;have vl:=lt_of_block hT6;clear hb6 hb7 hT6))
   clear et e5 e6 e7 eb s0 sl
   go_wp2
   go_region_held3 (fun W=>W.cell? ⟨b,off+i*9,none⟩=some (.int .i64 at_)∧W.cell? ⟨b,off+i*9+6,none⟩=some (.slice bo bn bc)∧W.cell? ⟨w.heap.size,0,none⟩=some (.pointer (some ⟨b,off+i*9,none⟩))) (go_keep)
    (first
      |(go_at_call 121;refine(HLB.out _ (bu HB1.out (bu HB6.out (by exact⟨rfl,rfl,rfl,Nat.le_refl _,fun _ _=>rfl⟩)))).mono ?_;rintro x w8 ⟨rfl,hb8⟩;have hb9:Below w6.heap.size w6 w8:=bu (by exact⟨rfl,rfl,rfl,Nat.le_refl _,fun _ _=>rfl⟩) hb8;have HB8:=hidq (bu HB6.out hb9);obtain⟨_,_,gt,_,_,g6,g7,_,_,gb⟩:=HCC.out w8 (bu HB1.out HB8.out);have hT8:=ku HB8.out HT1.out;have u0:=cl hT8 0 rfl;have ul:=lt_of_block hT8;clear hb8 hb9 hT8))
   clear ft f5 f6 f7 fb v0 vl
   go_wp2
   go_loopw [92] (fun i wr=>i=.int .i64 0∧wr=w8) (fun _ _=>0)
   case atStart=>exact⟨rfl,rfl⟩
   case round=>
    obtain⟨rfl,hwr⟩:=hrel
    subst hwr
    go_wp2
    go_end0
    exact⟨rfl,bu HB1.out HB8.out⟩
theorem ptrSizeS:(Tryz.prog.info? 136).map (·.size)=some 15:=by kernel_rfl
theorem plFieldsS:(Tryz.prog.fieldsOf 221).toList.map (fun f=>(f.name,f.type,f.offset))=[("first",131,0),("n",3,1),("deep",3,2)]:=by kernel_rfl
theorem plWideS:(match Tryz.prog.underlying 221 with | some (.array _ _)| some (.struct _)=>true | _=>false)=true:=by kernel_rfl
theorem plStructS:Tryz.prog.underlying 221=some (.struct (Tryz.prog.fieldsOf 221)):=by kernel_rfl
theorem plHeldS:Tryz.prog.stoodInHeld 221=false:=by kernel_rfl
theorem plCheckS (em:Bool)(p:PK)(w:World):(Instr.checkKey em 10000 221 (pkV p)).run Tryz.prog w=.ok () w:=by unfold pkV;kernel_rfl
theorem part0S (x y z:Value)(w:World):(part 131 #[x,y,z] 0).run Tryz.prog w=.ok x w:=by kernel_rfl
theorem eqPtrS (d:Nat)(a b:Addr)(w:World):(Op.equalIn (d+1) 131 (.pointer (some a)) (.pointer (some b))).run Tryz.prog w=(sameAddr a b).run Tryz.prog w:=by
 have hs:=ptrSizeS
 cases hi:Tryz.prog.info? 136 with
 | none=>rw[hi] at hs;simp at hs
 | some i=>
  rw[hi] at hs
  have hz:i.size=15:=by simpa using hs
  simp[Op.equalIn,run_underlying Tryz.underlying131,sizeOf,typeInfo,hi,hz]
theorem eqPKS (w:World)(p q:PK)(hp:Pln w p.1)(hq:Pln w q.1):(Op.equal 221 (pkV p) (pkV q)).run Tryz.prog w=.ok (decide (p=q)) w:=by
 obtain⟨cs,e,hp⟩:=hp
 obtain⟨cs',e',hq⟩:=hq
 have key:(sameAddr ⟨p.1,p.2.1,none⟩ ⟨q.1,q.2.1,none⟩).run Tryz.prog w=.ok (decide ((p.1,p.2.1)=(q.1,q.2.1))) w:=by
  by_cases h:(p.1,p.2.1)=(q.1,q.2.1)
  ·simp only[Prod.mk.injEq] at h
   rw[h.1,h.2]
   rw[run_sameAddr_same];simp
  ·rw[run_sameAddr_other w (fun hh=>h (by simp only[Addr.mk.injEq,and_true] at hh;rw[hh.1,hh.2])) hp hq]
   simp[h]
 obtain⟨a,b,c,d⟩:=p
 obtain⟨a',b',c',d'⟩:=q
 have hf:=plFieldsS
 unfold pkV
 show(Op.equalIn (9999+1) _ _ _).run _ _=_
 rw[run_equalIn_struct w 9999 _ _ _ plStructS plHeldS]
 match hm:(Tryz.prog.fieldsOf 221).toList with
 |[]=>rw[hm] at hf;simp at hf
 |[_]=>rw[hm] at hf;simp at hf
 |[_,_]=>rw[hm] at hf;simp at hf
 | f0::f1::f2::f3::_=>rw[hm] at hf;simp at hf
 |[f0,f1,f2]=>
  rw[hm] at hf
  simp only[List.map_cons,List.map_nil,List.cons.injEq,Prod.mk.injEq,and_true] at hf
  obtain⟨⟨n0,t0,o0⟩,⟨n1,t1,o1⟩,n2,t2,o2⟩:=hf
  have ep:=eqPtrS 9998 ⟨a,b,none⟩ ⟨a',b',none⟩ w
  have i1:=run_equalIn_int (P:=Tryz.prog) w 9998 3 .i64 .i64 (c:Int) (c':Int) Tryz.underlying3
  have i2:=run_equalIn_int (P:=Tryz.prog) w 9998 3 .i64 .i64 (d:Int) (d':Int) Tryz.underlying3
  simp only[Op.eqFields,n0,n1,n2,t0,t1,t2,o0,o1,o2,ne_eq,String.reduceEq,not_false_eq_true,if_true,Sem.run_bind,part0S,part1,part2,Result.andThen_ok,ep,key,i1,i2,Sem.run_ite,Sem.run_pure]
  by_cases h1:(a,b)=(a',b')
  ·simp only[Prod.mk.injEq] at h1
   obtain⟨rfl,rfl⟩:=h1
   by_cases h2:c=c'
   ·subst h2
    by_cases h3:d=d'
    ·subst h3;simp
    ·have:¬((d:Int)=d'):=by omega
     simp[h3,this]
   ·have:¬((c:Int)=c'):=by omega
    simp[h2,this]
  ·have h1':¬(a=a'∧b=b'):=by simpa using h1
   have:¬((a,b,c,d)=(a',b',c',d')):=by
    intro e;simp only[Prod.mk.injEq] at e;exact h1' ⟨e.1,e.2.1⟩
   simp[h1',this]
theorem find_runS (w:World)(p:PK)(hp:Pln w p.1):∀(es:List MapEntry) (K:List PK) (i:Nat),es.map (·.key)=K.map pkV→(∀q∈K,Pln w q.1)→
 (p ∉ K∧(Instr.findAsking 221 (pkV p) es i).run Tryz.prog w=.ok none w)∨(p∈K∧∃j e,es[j]? =some e∧e.key=pkV p∧(Instr.findAsking 221 (pkV p) es i).run Tryz.prog w=.ok (some (i+j,e.val)) w):=by
 intro es
 induction es with
 | nil=>
  intro K i hk _
  have:K=[]:=by simpa using hk.symm
  subst this
  exact .inl ⟨by simp,by simp[Instr.findAsking]⟩
 | cons e es ih=>
  intro K i hk hpl
  cases K with
  | nil=>simp at hk
  | cons q K=>
   simp only[List.map_cons,List.cons.injEq] at hk
   have heq:=eqPKS w p q hp (hpl q (by simp))
   rw[←hk.1] at heq
   by_cases h:p=q
   ·subst h
    refine .inr ⟨by simp,0,e,rfl,hk.1,?_⟩
    simp[Instr.findAsking,heq]
   ·rcases ih K (i+1) hk.2 (fun q hq=>hpl q (by simp[hq])) with⟨h1,h2⟩|⟨h1,j,e',h2,h3,h4⟩
    ·exact .inl ⟨by simp[h,h1],by simp[Instr.findAsking,heq,h,h2]⟩
    ·refine .inr ⟨by simp[h1],j+1,e',by simpa using h2,h3,?_⟩
     simp[Instr.findAsking,heq,h,h4];omega
theorem MapPl.findS {w:World}{B:Nat}{L:List (PK×Value)}(h:MapPl w B L){es:Array MapEntry}{clock:Nat}(hb:w.heap[B]? =some (.map es clock))(p:PK)(hp:Pln w p.1):
 (p ∉ L.map (·.1)∧(Instr.findKey 221 (pkV p) es.toList).run Tryz.prog w=.ok none w)∨(p∈L.map (·.1)∧∃j e,es.toList[j]? =some e∧e.key=pkV p∧(Instr.findKey 221 (pkV p) es.toList).run Tryz.prog w=.ok (some (j,e.val)) w):=by
 obtain⟨es',clock',hb',hk⟩:=h.ex
 rw[hb] at hb'
 simp only[Option.some.injEq,Obj.map.injEq] at hb'
 obtain⟨rfl,rfl⟩:=hb'
 rw[run_findKey_eq w plWideS]
 have:=find_runS w p hp es.toList (L.map (·.1)) 0 (keys_of hk) (fun q hq=>by obtain⟨x,hx,rfl⟩:=List.mem_map.1 hq;exact h.pln x hx)
 simpa using this
theorem SetP.asksS {w:World}{B:Nat}{K:List PK}(h:SetP w B K)(p:PK)(hp:Pln w p.1):(Instr.lookup 122 (.map (some B)) (pkV p) true).run Tryz.prog w=.ok (.tuple #[.agg #[],.bool (decide (p∈K))]) w:=by
 obtain⟨es,clock,hb,hk⟩:=h.ex
 have hf:=h.findS hb p hp
 rw[setKeys] at hf
 have hz:=zeroUn w
 have hc:=plCheckS es.isEmpty p w
 simp only[Instr.lookup,Sem.run_bind,run_underlying Tryz.underlying122,Result.andThen_ok,MapKept.run_getObj_map hb,Sem.run_pure,hc]
 rcases hf with⟨h1,h2⟩|⟨h1,j,e,h2,h3,h4⟩
 ·simp[h2,h1,hz]
 ·have:=SetP.val hk (List.mem_of_getElem? h2)
  simp[h4,h1,this]
theorem SetP.putS {w:World}{B:Nat}{K:List PK}(h:SetP w B K)(p:PK)(hp:Pln w p.1):∃w',(Instr.mapUpdate 122 (.map (some B)) (pkV p) (.agg #[])).run Tryz.prog w=.ok () w'∧SetP w' B (addP K p)∧w.grownBy w' (some B):=by
 obtain⟨es,clock,hb,hk⟩:=h.ex
 have hf:=h.findS hb p hp
 rw[setKeys] at hf
 have hc:=plCheckS false p w
 have hlt:=lt_of_block hb
 have hn:∀q:PK,Pln w q.1→B≠q.1:=by
  rintro q ⟨cs,e,hq⟩ rfl
  rw[hb] at hq;cases hq
 have pl:∀(o:Obj) (q:PK),Pln w q.1→Pln {w with heap:=w.heap.setIfInBounds B o} q.1:=by
  intro o q hq
  have hne:=hn q hq
  refine hq.keeps ?_
  simp[hne]
 rcases hf with⟨h1,h2⟩|⟨h1,j,e,h2,h3,h4⟩
 ·refine⟨{w with heap:=w.heap.setIfInBounds B (.map (es.push {key:=pkV p,val:=.agg #[],born:=clock}) (clock+1))},?_,⟨⟨es.push {key:=pkV p,val:=.agg #[],born:=clock},clock+1,?_,?_⟩,?_⟩,grown_obj _⟩
  ·simp only[Instr.mapUpdate,Sem.run_bind,run_underlying Tryz.underlying122,Result.andThen_ok,MapKept.run_getObj_map hb,hc,h2,MapKept.run_setObj_map _ hb]
  ·simp[hlt]
  ·simp[addP,h1] at hk⊢
   exact hk
  ·intro q hq
   obtain⟨r,hr,rfl⟩:=List.mem_map.1 hq
   rcases mem_addP.1 hr with hr | rfl
   ·exact pl _ _ (h.pl hr)
   ·exact pl _ _ hp
 ·have hv:=SetP.val hk (List.mem_of_getElem? h2)
  have hj:es[j]? =some e:=by simpa using h2
  refine⟨{w with heap:=w.heap.setIfInBounds B (.map (es.modify j fun e=>{e with key:=pkV p,val:=.agg #[]}) clock)},?_,⟨⟨es.modify j fun e=>{e with key:=pkV p,val:=.agg #[]},clock,?_,?_⟩,?_⟩,grown_obj _⟩
  ·simp only[Instr.mapUpdate,Sem.run_bind,run_underlying Tryz.underlying122,Result.andThen_ok,MapKept.run_getObj_map hb,hc,h4,hj,Option.map_some,Option.getD_some,h3,Instr.keyThatStays,sameBits_pk,if_true,Sem.run_pure,MapKept.run_setObj_map _ hb]
  ·simp[hlt]
  ·have e0:addP K p=K:=by simp[addP,h1]
   rw[e0,←hk]
   refine List.ext_getElem? fun i=> ?_
   simp only[List.getElem?_map,Array.getElem?_toList,Array.getElem?_modify]
   by_cases hi:j=i
   ·subst hi
    simp[hj,h3,hv]
   ·simp[hi]
  ·intro q hq
   obtain⟨r,hr,rfl⟩:=List.mem_map.1 hq
   rcases mem_addP.1 hr with hr | rfl
   ·exact pl _ _ (h.pl hr)
   ·exact pl _ _ hp
def polT (p:Pol):List UInt8:=p.1.data.toList++(58::Lib.join (p.2.map (·.data.toList)) [44])
def bodyT (x:List Pol):List UInt8:=Lib.join (x.map polT) [59]
def labelT (x:List Pol):List UInt8:=123::(bodyT x++[125])
def longB (p:Pol):Bool:=(decide (6<p.2.length) || decide (12<p.1.size)) || p.2.any fun r=>decide (12<r.size)
def printE (x:List Pol):Int:=if 200<x.length∨x.any longB=true then 2 else 0
def printV (x:List Pol):ByteArray:=if printE x=0 then⟨(labelT x).toArray⟩ else⟨#[]⟩
theorem join_snoc (l:List (List UInt8))(a sep:List UInt8):Lib.join (l++[a]) sep=(if l=[] then[] else Lib.join l sep++sep)++a:=by
 match l with
 |[]=>simp[Lib.join_one]
 | b::r=>
  rw[List.cons_append,Lib.join_cons,Lib.join_cons,if_neg (by simp)]
  simp[Lib.joinTail]
theorem join_len (l:List (List UInt8))(sep:List UInt8)(m:Nat)(h:∀a∈l,a.length+sep.length≤m):(Lib.join l sep).length≤l.length*m:=by
 match l with
 |[]=>simp[Lib.join_nil]
 | b::r=>
  rw[Lib.join_cons]
  have key:∀q:List (List UInt8),(∀a∈q,a.length+sep.length≤m)→(Lib.joinTail sep q).length≤q.length*m:=by
   intro q
   induction q with
   | nil=>intro _;simp[Lib.joinTail]
   | cons a s ih=>
    intro hq
    have h1:=ih (fun a ha=>hq a (by simp[ha]))
    have h2:=hq a (by simp)
    simp only[Lib.joinTail,List.map_cons,List.flatten_cons,List.length_append,List.length_cons] at h1⊢
    rw[Nat.succ_mul];omega
  have h1:=key r (fun a ha=>h a (by simp[ha]))
  have h2:=h b (by simp)
  simp only[List.length_append,List.length_cons]
  rw[Nat.succ_mul];omega
theorem short_of {p:Pol}(h:longB p=false):p.2.length≤6∧p.1.size≤12∧∀r∈p.2,r.size≤12:=by
 simp only[longB,Bool.or_eq_false_iff,decide_eq_false_iff_not,List.any_eq_false,decide_eq_true_eq] at h
 exact⟨by omega,by omega,fun r hr=>by have:=h.2 r hr;omega⟩
theorem readers_len {rs:List ByteArray}(h6:rs.length≤6)(h:∀r∈rs,r.size≤12):(Lib.join (rs.map (·.data.toList)) [44]).length≤78:=by
 have:=join_len (rs.map (·.data.toList)) [44] 13 (by
  intro a ha
  simp only[List.mem_map] at ha
  obtain⟨r,hr,rfl⟩:=ha
  have:=h r hr
  simp only[Array.length_toList,List.length_cons,List.length_nil]
  have:r.data.size=r.size:=rfl
  omega)
 rw[List.length_map] at this
 have:rs.length*13≤6*13:=Nat.mul_le_mul_right _ h6
 omega
theorem polT_len {p:Pol}(h:longB p=false):(polT p).length≤91:=by
 obtain⟨h1,h2,h3⟩:=short_of h
 have:=readers_len h1 h3
 have e:p.1.data.toList.length=p.1.size:=by rw[Array.length_toList];rfl
 simp only[polT,List.length_append,List.length_cons,e]
 omega
theorem bodyT_len {x:List Pol}(h:∀p∈x,longB p=false):(bodyT x).length≤x.length*92:=by
 have:=join_len (x.map polT) [59] 92 (by
  intro a ha
  simp only[List.mem_map] at ha
  obtain⟨p,hp,rfl⟩:=ha
  have:=polT_len (h p hp)
  simp;omega)
 rwa [List.length_map] at this
theorem bodyT_first {x:List Pol}{k:Nat}(hk:k<x.length)(h0:k=0):bodyT (x.take (k+1))=bodyT (x.take k)++polT x[k]:=by
 subst h0
 rw[List.take_succ_eq_append_getElem hk]
 simp[bodyT,Lib.join_one,Lib.join_nil]
theorem bodyT_next {x:List Pol}{k:Nat}(hk:k<x.length)(h0:0<k):bodyT (x.take (k+1))=bodyT (x.take k)++(59::polT x[k]):=by
 rw[List.take_succ_eq_append_getElem hk]
 unfold bodyT
 rw[List.map_append,List.map_singleton,join_snoc,if_neg]
 ·simp
 ·intro e
  have:=congrArg List.length e
  rw[List.length_map,List.length_take,List.length_nil] at this
  omega
namespace Par
def nameOK (s:ByteArray):Bool:=Lex.nameF s.data.toList
def namesOK (l:List ByteArray):Bool:=l.all nameOK
def polBad (p:Po):Bool:= !nameOK p.1 || !namesOK p.2
def labOK (l:List Po):Bool:=decide (printE l=0) && !l.any polBad
def numOK (t n:Int):Bool:=(t==1 && (decide (0≤n) && decide (n≤999999999))) ||(t==2 && (n==0 || n==1))
def aloneF:Tr→Bool
 | .mk k _ n t s l a=>
  if k≠1∧(n≠0∨t≠0) then false else if k≠5∧0<l.length then false
  else if k=1 then numOK t n && (s.data.toList==[]) && a.length==0
  else if k=2 then nameOK s && a.length==0
  else if k=3 then(a.length==2 && decide (0<levF s.data.toList)) ||(a.length==1 && (s.data.toList==[45] || s.data.toList==[33]))
  else if k=4 then nameOK s && decide (a.length≤4)
  else if k=5 then labOK l && (s.data.toList==[]) && a.length==1
  else false
def kidsOf:Tr→List Tr
 | .mk _ _ _ _ _ _ a=>a
def formD:Nat→Tr→Bool
 | 0,_=>false
 | m+1,x=>aloneF x && ((kidsOf x).isEmpty ||(decide (m≠0) && (kidsOf x).all (formD m)))
end Par
end Go.Proofs.YtepkhlpjgnckkaaGreatDoor
