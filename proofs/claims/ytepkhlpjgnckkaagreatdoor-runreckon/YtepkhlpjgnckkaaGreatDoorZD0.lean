/- The program of the closed fact of runs. And more of the same. -/
import Derived.Test.YtepkhlpjgnckkaaGreatDoorZC9
namespace Go.Proofs.YtepkhlpjgnckkaaGreatDoor
set_option maxRecDepth 100000
set_option maxHeartbeats 8000000
open Go.RowKit
open Par (Tr Stm Prm Chn Prc Prg Po ba)
def ranL:List UInt8:=[99,104,105,101,102,32,97,59,32,99,104,105,101,102,32,98,59,32,105,110,32,115,101,99,114,101,116,58,32,105,110,116,32,123,97,58,125,59,32,105,110,32,111,112,101,110,58,32,105,110,116,32,123,125,59,32,111,117,116,32,98,111,97,114,100,58,32,105,110,116,32,123,125,59,32,111,117,116,32,100,101,115,107,58,32,105,110,116,32,123,97,58,125,59,32,112,114,111,99,32,116,119,105,99,101,40,110,58,32,105,110,116,32,123,125,41,58,32,105,110,116,32,123,125,32,123,32,114,101,116,117,114,110,32,110,32,42,32,50,59,32,125,32,112,114,111,99,32,109,97,105,110,40,41,32,123,32,118,97,114,32,120,32,61,32,48,59,32,116,97,107,101,32,120,32,111,112,101,110,59,32,119,104,105,108,101,32,120,32,62,32,48,32,123,32,115,101,110,100,32,98,111,97,114,100,32,116,119,105,99,101,40,120,41,59,32,120,32,61,32,120,32,45,32,49,59,32,125,32,125]
def ranO:Option Prg:=match Par.readP ranL with
 | .ok t []=>some t
 | _=>none
def ranP:Prg:=ranO.getD ⟨[],[],[],[]⟩
theorem ran_some:ranO.isSome=true:=by kernel_rfl
theorem ran_reads:Par.readP ranL=.ok ranP []:=by
 have h:=ran_some
 unfold ranP
 unfold ranO at h⊢
 split at h
 ·rename_i t e
  rw[e]
  rfl
 ·cases h
def ranQ:Option Prc:=Rr.findP ranP.procs (ba [109,97,105,110])
theorem ran_main:(ranQ.map fun q=>(q.params.length,q.result.type,decide (q.body.length≤1000)))=some (0,0,true):=by kernel_rfl
theorem ran_runs:(ranQ.bind fun q=>((Rr.sem ranP 500 60).blk 0 [] 0 q.body ⟨0,[],[[],[2],[],[]]⟩).map fun u=>u.2.2.evs)=some [4,2]:=by kernel_rfl
theorem ran_bodies:(bodiesF ranP 3 1 false ranP.procs).isSome=true:=by kernel_rfl
theorem ran_few:decide (ranP.chans.length≤1000∧ranP.procs.length≤10)=true:=by kernel_rfl
theorem ran_cost:decide (100*Sk.sst 3 1<1000000000)=true:=by kernel_rfl
theorem ran_chiefs:decide (checkF ranP.chiefs ranP.acts=0)=true:=by kernel_rfl
structure InR (w:World)(ao:Option Addr)(b off:Nat)(ns:List Nat):Prop where
 adr:0<ns.length→ao=some ⟨b,off,none⟩
 cell:∀i (h:i<ns.length),∃x c,w.cell? ⟨b,off+i,none⟩=some (.slice x ns[i] c)
 lt:0<ns.length→b<w.heap.size
structure ChR (w:World)(ao:Option Addr)(b off:Nat)(bs:List Bool):Prop where
 adr:0<bs.length→ao=some ⟨b,off,none⟩
 cell:∀i (h:i<bs.length),w.cell? ⟨b,off+i*5+2,none⟩=some (.bool bs[i])
 lt:0<bs.length→b<w.heap.size
theorem InR.later {w w':World}{ao:Option Addr}{b off:Nat}{ns:List Nat}(h:InR w ao b off ns)(hb:Below w.heap.size w w'):InR w' ao b off ns:=
 ⟨h.adr,fun k hk=>by obtain⟨x,c,e⟩:=h.cell k hk;exact⟨x,c,(hb.cell (p:=⟨b,off+k,none⟩) (h.lt (by omega))).trans e⟩,fun hn=>Nat.lt_of_lt_of_le (h.lt hn) hb.size⟩
theorem ChR.later {w w':World}{ao:Option Addr}{b off:Nat}{bs:List Bool}(h:ChR w ao b off bs)(hb:Below w.heap.size w w'):ChR w' ao b off bs:=
 ⟨h.adr,fun k hk=>(hb.cell (p:=⟨b,off+k*5+2,none⟩) (h.lt (by omega))).trans (h.cell k hk),fun hn=>Nat.lt_of_lt_of_le (h.lt hn) hb.size⟩
def inpL:List Nat→List Bool→Int
 | n::ns,b::bs=>if 60<n then 2 else if 0<n∧b=false then 4 else inpL ns bs
 | _,_=>0
def inpF (ns:List Nat)(bs:List Bool):Int:=if ns.length=bs.length then inpL ns bs else 4
theorem inp_step {ns:List Nat}{bs:List Bool}{k:Nat}(h:k<ns.length)(h':k<bs.length):inpL (ns.drop k) (bs.drop k)=if 60<ns[k] then 2 else if 0<ns[k]∧bs[k]=false then 4 else inpL (ns.drop (k+1)) (bs.drop (k+1)):=by
 rw[List.drop_eq_getElem_cons h,List.drop_eq_getElem_cons h']
 rfl
theorem inputsC {w:World}{cv av qv:Value}{ao co:Option Addr}{ab aoff cb coff ac cc:Nat}{ns:List Nat}{bs:List Bool}(hm:ns.length≤maxLen)(hi:InR w ao ab aoff ns)(hc:ChR w co cb coff bs):
 Calls Tryz.prog 7 #[.agg #[cv,av,.slice co bs.length cc,qv],.slice ao ns.length ac] w fun x w'=>x=.returned (.int .i64 (inpF ns bs))∧Below w.heap.size w w':=by
 obtain⟨n,hn⟩:∃n,n=ns.length:=⟨_,rfl⟩
 obtain⟨m,hm'⟩:∃m,m=bs.length:=⟨_,rfl⟩
 have HI:=hidq hi
 have HC:=hidq hc
 have HN:=hidq hn
 have HM:=hidq hm'
 rw[←hn] at hm
 rw[←hn,←hm']
 unfold maxLen at hm
 obtain⟨w0,hw0⟩:∃w0,w0=w.alloc (.cells #[cv,av,.slice co m cc,qv] 27):=⟨_,rfl⟩
 have hb0:Below w.heap.size w w0:=by rw[hw0];exact(Below.refl _ _).alloc (Nat.le_refl _) _
 have hk0:w0.heap[w.heap.size]? =some (.cells #[cv,av,.slice co m cc,qv] 27 (0,0)):=by rw[hw0];exact heap_at_alloc _ _ _ rfl
 have c2:w0.cell? ⟨w.heap.size,2,none⟩=some (.slice co m cc):=by simp[World.cell?,hk0]
 have HB0:=hidq hb0
 clear hi hc hn hm' hb0 hk0
 by_cases hnm:n=m
 ·subst hnm
  have HF:Hid (inpF ns bs=inpL ns bs):=by show _=_;unfold inpF;rw[←HN.out,←HM.out,if_pos rfl]
  rw[HF.out]
  go_enter Tryz.func7,Tryz.ntmps7
  go_wp2
  rw[←hw0]
  clear hw0
  go_loopw [15] (fun i wr=>∃k:Nat,k≤n∧i=.int .i64 k∧wr=w0∧Hid (inpL (ns.drop k) (bs.drop k)=inpL ns bs)) (fun i _=>n - (intOf i).toNat)
  case atStart=>exact⟨0,Nat.zero_le _,rfl,rfl,rfl⟩
  case round=>
   obtain⟨k,hk,rfl,rfl,HE⟩:=hrel
   by_cases hlt:k<n
   ·obtain⟨x,c,e1⟩:=(HI.out.later HB0.out).cell k (by rw[←HN.out];exact hlt)
    have e2:=(HC.out.later HB0.out).cell k (by rw[←HM.out];exact hlt)
    have a1:=HI.out.adr (by rw[←HN.out];omega)
    have a2:=HC.out.adr (by rw[←HM.out];omega)
    have HS:=hidq (inp_step (ns:=ns) (bs:=bs) (k:=k) (by rw[←HN.out];exact hlt) (by rw[←HM.out];exact hlt))
    obtain⟨q,hq⟩:∃q,q=ns[k]'(by rw[←HN.out];exact hlt):=⟨_,rfl⟩
    obtain⟨d,hd⟩:∃d,d=bs[k]'(by rw[←HM.out];exact hlt):=⟨_,rfl⟩
    rw[←hq] at e1
    rw[←hd] at e2
    rw[←hq,←hd] at HS
    have l1:=(HI.out.later HB0.out).lt (by rw[←HN.out];omega)
    have l2:=(HC.out.later HB0.out).lt (by rw[←HM.out];omega)
    subst a1 a2
    clear hq hd
    by_cases h6:60<q
    ·have HR:Hid (inpL ns bs=2):=by show _=_;rw[←HE.out,HS.out,if_pos h6]
     have hd6:decide ((60:Int)<(q:Int))=true:=by simp;omega
     clear HS HE
     go_wp2
     go_ret
     exact⟨by rw[HR.out];rfl,HB0.out⟩
    ·have hd6:decide ((60:Int)<(q:Int))=false:=by simp;omega
     by_cases hq0:q=0
     ·subst hq0
      have HR:Hid (inpL (ns.drop (k+1)) (bs.drop (k+1))=inpL ns bs):=by show _=_;rw[←HE.out,HS.out,if_neg h6,if_neg (by omega)]
      clear HS HE
      cases d
      all_goals
       go_wp2
       go_roundw
       case rel=>exact⟨k+1,by omega,by go_num,trivial,HR.out⟩
       case measure=>simp[intOf];omega
     ·have hd7:decide ((0:Int)<(q:Int))=true:=by simp;omega
      have hd8:((q:Int) !=0)=true:=by simp;omega
      cases d
      ·have HR:Hid (inpL ns bs=4):=by show _=_;rw[←HE.out,HS.out,if_neg h6,if_pos ⟨by omega,rfl⟩]
       clear HS HE
       go_wp2
       go_ret
       exact⟨by rw[HR.out];rfl,HB0.out⟩
      ·have HR:Hid (inpL (ns.drop (k+1)) (bs.drop (k+1))=inpL ns bs):=by show _=_;rw[←HE.out,HS.out,if_neg h6,if_neg (by simp)]
       clear HS HE
       go_wp2
       go_roundw
       case rel=>exact⟨k+1,by omega,by go_num,trivial,HR.out⟩
       case measure=>simp[intOf];omega
   ·have HR:Hid (inpL ns bs=0):=by
     show _=_
     rw[←HE.out,List.drop_of_length_le (by rw[←HN.out];omega)]
     rfl
    go_wp2
    go_ret
    exact⟨by rw[HR.out];rfl,HB0.out⟩
 ·have HF:Hid (inpF ns bs=4):=by show _=_;unfold inpF;rw[←HN.out,←HM.out,if_neg hnm]
  have hne:((n:Int) !=(m:Int))=true:=by simp;omega
  rw[HF.out]
  go_enter Tryz.func7,Tryz.ntmps7
  go_wp2
  rw[←hw0]
  go_ret
  exact⟨rfl,HB0.out⟩
theorem inputsD {w:World}{cv av qv:Value}{ao co:Option Addr}{ab aoff cb coff ac cc:Nat}{ns:List Nat}{bs:List Bool}(hm:ns.length≤maxLen)(hi:InR w ao ab aoff ns)(hc:ChR w co cb coff bs):
 Calls Tryz.prog 8 #[.agg #[cv,av,.slice co bs.length cc,qv],.slice ao ns.length ac] w fun x w'=>x=.returned (.int .i64 (inpF ns bs))∧Below w.heap.size w w':=by
 obtain⟨n,hn⟩:∃n,n=ns.length:=⟨_,rfl⟩
 obtain⟨m,hm'⟩:∃m,m=bs.length:=⟨_,rfl⟩
 have HI:=hidq hi
 have HC:=hidq hc
 have HN:=hidq hn
 have HM:=hidq hm'
 rw[←hn] at hm
 rw[←hn,←hm']
 unfold maxLen at hm
 obtain⟨w0,hw0⟩:∃w0,w0=w.alloc (.cells #[cv,av,.slice co m cc,qv] 27):=⟨_,rfl⟩
 have hb0:Below w.heap.size w w0:=by rw[hw0];exact(Below.refl _ _).alloc (Nat.le_refl _) _
 have hk0:w0.heap[w.heap.size]? =some (.cells #[cv,av,.slice co m cc,qv] 27 (0,0)):=by rw[hw0];exact heap_at_alloc _ _ _ rfl
 have c2:w0.cell? ⟨w.heap.size,2,none⟩=some (.slice co m cc):=by simp[World.cell?,hk0]
 have HB0:=hidq hb0
 clear hi hc hn hm' hb0 hk0
 by_cases hnm:n=m
 ·subst hnm
  have HF:Hid (inpF ns bs=inpL ns bs):=by show _=_;unfold inpF;rw[←HN.out,←HM.out,if_pos rfl]
  rw[HF.out]
  go_enter Tryz.func8,Tryz.ntmps8
  go_wp2
  rw[←hw0]
  clear hw0
  go_loopw [15] (fun i wr=>∃k:Nat,k≤n∧i=.int .i64 k∧wr=w0∧Hid (inpL (ns.drop k) (bs.drop k)=inpL ns bs)) (fun i _=>n - (intOf i).toNat)
  case atStart=>exact⟨0,Nat.zero_le _,rfl,rfl,rfl⟩
  case round=>
   obtain⟨k,hk,rfl,rfl,HE⟩:=hrel
   by_cases hlt:k<n
   ·obtain⟨x,c,e1⟩:=(HI.out.later HB0.out).cell k (by rw[←HN.out];exact hlt)
    have e2:=(HC.out.later HB0.out).cell k (by rw[←HM.out];exact hlt)
    have a1:=HI.out.adr (by rw[←HN.out];omega)
    have a2:=HC.out.adr (by rw[←HM.out];omega)
    have HS:=hidq (inp_step (ns:=ns) (bs:=bs) (k:=k) (by rw[←HN.out];exact hlt) (by rw[←HM.out];exact hlt))
    obtain⟨q,hq⟩:∃q,q=ns[k]'(by rw[←HN.out];exact hlt):=⟨_,rfl⟩
    obtain⟨d,hd⟩:∃d,d=bs[k]'(by rw[←HM.out];exact hlt):=⟨_,rfl⟩
    rw[←hq] at e1
    rw[←hd] at e2
    rw[←hq,←hd] at HS
    have l1:=(HI.out.later HB0.out).lt (by rw[←HN.out];omega)
    have l2:=(HC.out.later HB0.out).lt (by rw[←HM.out];omega)
    subst a1 a2
    clear hq hd
    by_cases h6:60<q
    ·have HR:Hid (inpL ns bs=2):=by show _=_;rw[←HE.out,HS.out,if_pos h6]
     have hd6:decide ((60:Int)<(q:Int))=true:=by simp;omega
     clear HS HE
     go_wp2
     go_ret
     exact⟨by rw[HR.out];rfl,HB0.out⟩
    ·have hd6:decide ((60:Int)<(q:Int))=false:=by simp;omega
     by_cases hq0:q=0
     ·subst hq0
      have HR:Hid (inpL (ns.drop (k+1)) (bs.drop (k+1))=inpL ns bs):=by show _=_;rw[←HE.out,HS.out,if_neg h6,if_neg (by omega)]
      clear HS HE
      cases d
      all_goals
       go_wp2
       go_roundw
       case rel=>exact⟨k+1,by omega,by go_num,trivial,HR.out⟩
       case measure=>simp[intOf];omega
     ·have hd7:decide ((0:Int)<(q:Int))=true:=by simp;omega
      have hd8:((q:Int) !=0)=true:=by simp;omega
      cases d
      ·have HR:Hid (inpL ns bs=4):=by show _=_;rw[←HE.out,HS.out,if_neg h6,if_pos ⟨by omega,rfl⟩]
       clear HS HE
       go_wp2
       go_ret
       exact⟨by rw[HR.out];rfl,HB0.out⟩
      ·have HR:Hid (inpL (ns.drop (k+1)) (bs.drop (k+1))=inpL ns bs):=by show _=_;rw[←HE.out,HS.out,if_neg h6,if_neg (by simp)]
       clear HS HE
       go_wp2
       go_roundw
       case rel=>exact⟨k+1,by omega,by go_num,trivial,HR.out⟩
       case measure=>simp[intOf];omega
   ·have HR:Hid (inpL ns bs=0):=by
     show _=_
     rw[←HE.out,List.drop_of_length_le (by rw[←HN.out];omega)]
     rfl
    go_wp2
    go_ret
    exact⟨by rw[HR.out];rfl,HB0.out⟩
 ·have HF:Hid (inpF ns bs=4):=by show _=_;unfold inpF;rw[←HN.out,←HM.out,if_neg hnm]
  have hne:((n:Int) !=(m:Int))=true:=by simp;omega
  rw[HF.out]
  go_enter Tryz.func8,Tryz.ntmps8
  go_wp2
  rw[←hw0]
  go_ret
  exact⟨rfl,HB0.out⟩
def OkChn (P:Prg):Prop:=∀i (hi:i<P.chans.length),(∀j (hj:j<i),P.chans[j].name≠P.chans[i].name)∧checkL P.chiefs P.acts P.chans[i].lab=0
def OkPrc (P:Prg):Prop:=∀i (hi:i<P.procs.length),(∀j (hj:j<i),P.procs[j].name≠P.procs[i].name)∧P.procs[i].params.length≤900∧(∀j (hj:j<P.procs[i].params.length),(∀k (hk:k<j),P.procs[i].params[k].name≠P.procs[i].params[j].name)∧checkL P.chiefs P.acts P.procs[i].params[j].lab=0)∧checkL P.chiefs P.acts P.procs[i].result.lab=0∧checkL P.chiefs P.acts P.procs[i].begin_=0∧P.procs[i].for_.length=0
instance (P:Prg):Decidable (OkChn P):=by unfold OkChn;infer_instance
instance (P:Prg):Decidable (OkPrc P):=by unfold OkPrc;infer_instance
theorem ran_chn:OkChn ranP:=of_decide_eq_true (by kernel_rfl)
theorem ran_prc:OkPrc ranP:=of_decide_eq_true (by kernel_rfl)
def dpB:Nat→Stm→Bool
 | 0,_=>false
 | m+1,.mk k _ _ _ _ _ e a b=>(decide (k=6) || Par.formD 12 e) && (a.all (dpB m) && b.all (dpB m))
theorem dpB_dps:∀(m:Nat) (s:Stm),dpB m s=true→DpS s
 | 0,_,h=>by cases h
 | m+1,.mk k p s o d l e a b,h=>by
  unfold dpB at h
  rw[Bool.and_eq_true,Bool.and_eq_true,Bool.or_eq_true,List.all_eq_true,List.all_eq_true] at h
  refine .mk (fun hk=> ?_) (fun x hx=>dpB_dps m x (h.2.1 x hx)) (fun x hx=>dpB_dps m x (h.2.2 x hx))
  rcases h.1 with h1 | h1
  ·exact absurd (of_decide_eq_true h1) hk
  ·exact h1
theorem ran_dpB:(ranP.procs.all fun q=>q.body.all (dpB 6))=true:=by kernel_rfl
theorem ran_dp:DpG ranP:=fun q hq x hx=>dpB_dps 6 x (List.all_eq_true.1 (List.all_eq_true.1 ran_dpB q hq) x hx)
theorem ran_ok:ProgOK ranP 3 1 where
 px:=Par.read_pgx ran_reads
 dp:=ran_dp
 chf:=of_decide_eq_true ran_chiefs
 chn:=ran_chn
 prc:=fun i hi=>by
  obtain⟨h1,h2,h3,h4,h5,h6⟩:=ran_prc i hi
  exact⟨h1,h2,h3,h4,h5,List.length_eq_zero_iff.1 h6⟩
 bod:=Option.isSome_iff_exists.1 ran_bodies
 man:=by
  have h:=ran_main
  unfold ranQ at h
  obtain⟨q,h1,h2⟩:=Option.map_eq_some_iff.1 h
  simp only[Prod.mk.injEq,List.length_eq_zero_iff] at h2
  exact⟨q,h1,h2.1,h2.2.1⟩
 few:=of_decide_eq_true ran_few
 cst:=of_decide_eq_true ran_cost
theorem ran_parseG:Par.parseG ranL=.ok ranP []:=by
 unfold Par.parseG
 rw[ran_reads]
 show(if dB (DpG ranP)=true then _ else _)=_
 rw[if_pos (dB_true ran_dp)]
theorem ran_run:∃q env' back' g',Rr.findP ranP.procs (ba [109,97,105,110])=some q∧q.params=[]∧q.body.length≤1000∧(Rr.sem ranP 500 60).blk 0 [] 0 q.body ⟨0,[],[[],[2],[],[]]⟩=some (env',back',g')∧g'.evs=[4,2]:=by
 have h:=ran_main
 have h2:=ran_runs
 unfold ranQ at h h2
 obtain⟨q,h3,h4⟩:=Option.map_eq_some_iff.1 h
 simp only[Prod.mk.injEq,List.length_eq_zero_iff,decide_eq_true_eq] at h4
 rw[h3] at h2
 obtain⟨⟨env',back',g'⟩,h5,h6⟩:=Option.map_eq_some_iff.1 h2
 exact⟨q,env',back',g',h3,h4.1,h4.2.2,h5,h6⟩
theorem ran_inp:inpF [0,1,0,0] (ranP.chans.map fun c=>c.inw)=0:=by kernel_rfl
def houseB:ByteArray:=ba [99,104,105,101,102,32,97,59,32,99,104,105,101,102,32,98,59,32,105,110,32,115,101,99,114,101,116,58,32,105,110,116,32,123,97,58,125,59,32,105,110,32,111,112,101,110,58,32,105,110,116,32,123,125,59,32,111,117,116,32,98,111,97,114,100,58,32,105,110,116,32,123,125,59,32,111,117,116,32,100,101,115,107,58,32,105,110,116,32,123,97,58,125,59,32]
def ranB:ByteArray:=ba [112,114,111,99,32,116,119,105,99,101,40,110,58,32,105,110,116,32,123,125,41,58,32,105,110,116,32,123,125,32,123,32,114,101,116,117,114,110,32,110,32,42,32,50,59,32,125,32,112,114,111,99,32,109,97,105,110,40,41,32,123,32,118,97,114,32,120,32,61,32,48,59,32,116,97,107,101,32,120,32,111,112,101,110,59,32,119,104,105,108,101,32,120,32,62,32,48,32,123,32,115,101,110,100,32,98,111,97,114,100,32,116,119,105,99,101,40,120,41,59,32,120,32,61,32,120,32,45,32,49,59,32,125,32,125]
theorem ran_text:(houseB++ranB).data.toList=ranL:=by kernel_rfl
theorem ran_size:decide ((houseB++ranB).size≤maxLen)=true:=by kernel_rfl
theorem readC {w:World}(hl:LevAt w w.heap.size):Calls Tryz.prog 17 #[.string (houseB++ranB)] w fun x w'=>∃(j0:Option Addr) (m0 d0:Nat) (j1:Option Addr) (m1 d1:Nat) (j2:Option Addr) (m2 d2:Nat) (j3:Option Addr) (m3 d3:Nat),x=.returned (.tuple #[.agg #[.slice j0 m0 d0,.slice j1 m1 d1,.slice j2 m2 d2,.slice j3 m3 d3],.agg #[.int .i64 0,.int .i64 0]])∧PgIs w' (fun b=>w.heap.size≤b) ranP [.slice j0 m0 d0,.slice j1 m1 d1,.slice j2 m2 d2,.slice j3 m3 d3]∧Below w.heap.size w w':=by
 refine(parseCG (houseB++ranB) w (of_decide_eq_true ran_size) hl).mono ?_
 rintro x w' ⟨hb,⟨t,hr,j0,m0,d0,j1,m1,d1,j2,m2,d2,j3,m3,d3,rfl,hp⟩|⟨c,q,hr,rfl⟩⟩
 ·rw[ran_text,ran_parseG] at hr
  cases hr
  exact⟨j0,m0,d0,j1,m1,d1,j2,m2,d2,j3,m3,d3,rfl,hp,hb⟩
 ·rw[ran_text,ran_parseG] at hr
  cases hr
theorem progC {w:World}(hl:LevAt w w.heap.size):Calls Tryz.prog 14 #[.string ranB] w fun x w'=>∃(j0:Option Addr) (m0 d0:Nat) (j1:Option Addr) (m1 d1:Nat) (j2:Option Addr) (m2 d2:Nat) (j3:Option Addr) (m3 d3:Nat),x=.returned (.agg #[.slice j0 m0 d0,.slice j1 m1 d1,.slice j2 m2 d2,.slice j3 m3 d3])∧PgIs w' (fun b=>w.heap.size≤b) ranP [.slice j0 m0 d0,.slice j1 m1 d1,.slice j2 m2 d2,.slice j3 m3 d3]∧Below w.heap.size w w':=by
 obtain⟨w1,hw1⟩:∃w1,w1=w.alloc (.cells ZG 27):=⟨_,rfl⟩
 have hb1:=al1 hw1
 have hs1:w1.heap.size=w.heap.size+1:=by rw[hw1];simp
 have hrd:=readC (w:=w1) ((hl.keeps hb1.size fun b hb=>hb1.block b hb).mono (by omega))
 have HB1:=hidq hb1
 have HZ1:Hid (w1.heap[w.heap.size]? =some (.cells ZG 27 (0,0))):=aa hw1
 have HS1:=hidq hs1
 obtain⟨rb,hrb⟩:∃b,b=ranB:=⟨_,rfl⟩
 unfold ZG at hw1
 clear hl hb1 hs1
 rw[←hrb]
 go_enter Tryz.func14,Tryz.ntmps14
 go_wp2_with fail
 rw[←hw1]
 clear hw1
 refine hrd.mono ?_
 rintro x w2 ⟨j0,m0,d0,j1,m1,d1,j2,m2,d2,j3,m3,d3,rfl,hp,hb2⟩
 clear hrd
 have HP2:=hidq hp
 have HB2:=hidq (bu HB1.out hb2)
 have HB12:=hidq hb2
 obtain⟨w4,hw4⟩:∃w4,w4=(w2.alloc (.cells #[.slice j0 m0 d0,.slice j1 m1 d1,.slice j2 m2 d2,.slice j3 m3 d3] 27)).alloc (.cells #[.int .i64 0,.int .i64 0] 45):=⟨_,rfl⟩
 have hb24:Below w2.heap.size w2 w4:=by rw[hw4];exact((Below.refl _ _).alloc (Nat.le_refl _) _).alloc (by simp) _
 have hk4:w4.heap[w2.heap.size]? =some (.cells #[.slice j0 m0 d0,.slice j1 m1 d1,.slice j2 m2 d2,.slice j3 m3 d3] 27 (0,0)):=by rw[hw4];exact heap_past_alloc (heap_at_alloc _ _ _ rfl)
 have hr4:=ku hb24 (ku hb2 HZ1.out)
 unfold ZG at hr4
 have HR4:=hidq hr4
 have HB24:=hidq hb24
 have e0:=cl hk4 0 rfl
 have e1:=cl hk4 1 rfl
 have e2:=cl hk4 2 rfl
 have e3:=cl hk4 3 rfl
 have g0:=cl hr4 0 rfl
 have g1:=cl hr4 1 rfl
 have g2:=cl hr4 2 rfl
 have g3:=cl hr4 3 rfl
 have z0:=fz hr4 0
 have z1:=fz hr4 1
 have z2:=fz hr4 2
 have z3:=fz hr4 3
 have el:=lt_of_block hk4
 clear hp hb2 hb24 hk4 hr4
 go_upto_region 2 with fail
 rw[←hw4]
 clear hw4
 go_wp2
 obtain⟨w5,hw5⟩:∃w5,w5=(((w4.setCell ⟨w.heap.size,0,none⟩ (.slice j0 m0 d0)).setCell ⟨w.heap.size,1,none⟩ (.slice j1 m1 d1)).setCell ⟨w.heap.size,2,none⟩ (.slice j2 m2 d2)).setCell ⟨w.heap.size,3,none⟩ (.slice j3 m3 d3):=⟨_,rfl⟩
 rw[←hw5]
 have h5:w5.heap[w.heap.size]? =some (.cells #[.slice j0 m0 d0,.slice j1 m1 d1,.slice j2 m2 d2,.slice j3 m3 d3] 27 (0,0)):=by
  rw[hw5]
  simp[World.setCell,Array.getElem?_modify,HR4.out]
 have hB:Below w.heap.size w w5:=by
  rw[hw5]
  iterate 4 refine Below.setCell ?_ (by simp) _
  exact bu HB2.out HB24.out
 have hz:w5.heap.size=w4.heap.size:=by rw[hw5];simp[World.setCell]
 have hP:PgIs w5 (fun b=>w.heap.size≤b) ranP [.slice j0 m0 d0,.slice j1 m1 d1,.slice j2 m2 d2,.slice j3 m3 d3]:=by
  refine(HP2.out.keeps ⟨by rw[hz];exact HB24.out.size,fun b hb hl=> ?_⟩).mono fun b hb _=>by have:=HS1.out;omega
  rw[hw5]
  iterate 4 rw[Below.heap_setCell _ _ _ _ (by have:=HS1.out;simp;omega)]
  exact HB24.out.block b hl
 have q0:=cl h5 0 rfl
 have q1:=cl h5 1 rfl
 have q2:=cl h5 2 rfl
 have q3:=cl h5 3 rfl
 refine bodyPost_ret (v:=.agg #[.slice j0 m0 d0,.slice j1 m1 d1,.slice j2 m2 d2,.slice j3 m3 d3]) ?_ rfl ⟨j0,m0,d0,j1,m1,d1,j2,m2,d2,j3,m3,d3,rfl,hP,hB⟩
 simp[results,Tryz.results14,go_sem,q0,q1,q2,q3]
theorem wrongC {w:World}{pb:Nat}{cv av nv qv lv:Value}{fuel:Nat}(hblk:w.heap[pb]? =some (.cells #[cv,av,nv,qv] 27 (0,0)))(hf:fuel≤3000)
 (hS:∀W,Below w.heap.size w W→Calls Tryz.prog 28 #[.agg #[cv,av,nv,qv]] W fun x w'=>x=.returned (.agg #[.int .i64 0,.int .i64 0])∧Below W.heap.size W w')
 (hI:∀W,Below w.heap.size w W→Calls Tryz.prog 7 #[.agg #[cv,av,nv,qv],lv] W fun x w'=>x=.returned (.int .i64 0)∧Below W.heap.size W w'):
 Calls Tryz.prog 18 #[.pointer (some ⟨pb,0,none⟩),lv,.int .i64 (fuel:Nat)] w fun x w'=>x=.returned (.agg #[.int .i64 0,.int .i64 0])∧Below w.heap.size w w':=by
 obtain⟨w1,hw1⟩:∃w1,w1=w.alloc (.cells #[.int .i64 0,.int .i64 0] 45):=⟨_,rfl⟩
 have hb1:=al1 hw1
 have hpl:=lt_of_block hblk
 have hp1:=ku hb1 hblk
 have hr1:w1.heap[w.heap.size]? =some (.cells #[.int .i64 0,.int .i64 0] 45 (0,0)):=aa hw1
 have hs1:w1.heap.size=w.heap.size+1:=by rw[hw1];simp
 have hcS:=hS w1 hb1
 have HI:=hidq hI
 have e0:=cl hp1 0 rfl
 have e1:=cl hp1 1 rfl
 have e2:=cl hp1 2 rfl
 have e3:=cl hp1 3 rfl
 have el:=lt_of_block hp1
 have HB1:=hidq hb1
 have HP1:=hidq hp1
 have HR1:=hidq hr1
 have HNE:Hid (pb<w.heap.size∧w1.heap.size=w.heap.size+1):=⟨hpl,hs1⟩
 have hd1:decide ((fuel:Int)<0)=false:=by simp
 have hd2:decide ((3000:Int)<(fuel:Int))=false:=by simp;omega
 clear hS hI hb1 hp1 hr1 hs1 hblk hpl
 go_enter Tryz.func18,Tryz.ntmps18
 go_upto_region 1 with fail
 rw[←hw1]
 clear hw1
 go_wp2_with fail
 refine hcS.mono ?_
 rintro x w2 ⟨rfl,hb2⟩
 obtain⟨w3,hw3⟩:∃w3,w3=w2.alloc (.cells #[.int .i64 0,.int .i64 0] 45):=⟨_,rfl⟩
 clear e0 e1 e2 e3 el hcS
 have HB2:=hidq (bu HB1.out hb2)
 have HB3:Hid (Below w2.heap.size w2 w3):=al1 hw3
 have hp3:=ku HB3.out (ku hb2 HP1.out)
 have HR3:=hidq (ku HB3.out (ku hb2 HR1.out))
 have hf3:w3.heap[w2.heap.size]? =some (.cells #[.int .i64 0,.int .i64 0] 45 (0,0)):=aa hw3
 have e0:=cl hp3 0 rfl
 have e1:=cl hp3 1 rfl
 have e2:=cl hp3 2 rfl
 have e3:=cl hp3 3 rfl
 have el:=lt_of_block hp3
 have f0:=cl hf3 0 rfl
 have fl:=lt_of_block hf3
 have hcI:=HI.out w3 (bu HB2.out HB3.out)
 clear hb2 hp3 hf3
 go_upto_region 2 with fail
 rw[←hw3]
 clear hw3
 go_wp2_with fail
 refine hcI.mono ?_
 rintro x w4 ⟨rfl,hb4⟩
 have HB4:Hid (Below w.heap.size w w4):=bu HB2.out (bu HB3.out hb4)
 have h4:=ku hb4 HR3.out
 have HR4:=hidq h4
 clear e0 e1 e2 e3 el f0 fl hcI hb4
 have g0:=cl h4 0 rfl
 have g1:=cl h4 1 rfl
 have z0:=fz h4 0
 have z1:=fz h4 1
 clear h4
 go_wp2
 refine bodyPost_ret (v:=.agg #[.int .i64 0,.int .i64 0]) ?_ rfl ⟨rfl,(HB4.out.setCell (Nat.le_refl _) _).setCell (Nat.le_refl _) _⟩
 have h5:((w4.setCell ⟨w.heap.size,0,none⟩ (.int .i64 0)).setCell ⟨w.heap.size,1,none⟩ (.int .i64 0)).heap[w.heap.size]? =some (.cells #[.int .i64 0,.int .i64 0] 45 (0,0)):=by simp[World.setCell,Array.getElem?_modify,HR4.out]
 have q0:=cl h5 0 rfl
 have q1:=cl h5 1 rfl
 simp[results,Tryz.results18,go_sem,q0,q1]
theorem Rc.nextF {w w':World}{L rb pb lb fuel lc:Nat}{P:Prg}{cv av nv qv ev ev':Value}{g g':Rr.Sg}{X X':Nat→Prop}(h:Rc w L rb pb lb fuel lc P cv av nv qv ev g)(hA:Ap X L rb lb pb ev)(hr:RS w' L rb pb lb fuel lc ev' g')(hk:Kf X X' rb lb ev ev' w w'):Rc w' L rb pb lb fuel lc P cv av nv qv ev' g':=by
 have h1:=h.rs.rl
 have h2:=h.rs.ll
 have hlow:∀b,b<L→w'.heap[b]? =w.heap[b]? :=fun b hb=>hk.kp.block b ⟨by omega,by omega,fun e=>by have:=(h.rs.evl b e.symm).1;omega,fun e=>by have:=(hA b e).1;omega⟩ (Nat.lt_of_lt_of_le hb h.sz)
 refine⟨hr,h.pm.keeps ⟨hk.kp.size,fun b hb hl=> ?_⟩,h.lev.keeps hk.kp.size hlow,Nat.le_trans h.sz hk.kp.size⟩
 rcases hb with hb | rfl
 ·exact hlow b hb
 ·exact hk.kp.block b ⟨h.rs.pn.1,h.rs.pn.2,fun e=>(h.rs.eb b e.symm).2.2 rfl,fun e=>(hA b e).2.2.2.1 rfl⟩ hl
def StmC (L rb pb lb fuel lc:Nat)(P:Prg)(cv av nv qv:Value)(T:Nat→Rr.Env→Int→Stm→Rr.Sg→Option (Rr.Env×Int×Rr.Sg)):Prop:=
 ∀(w:World) (deep fb:Nat) (X:Nat→Prop) (vo:Option Addr) (vc:Nat) (nbs:List Nat) (env env':Rr.Env) (back back':Int) (ev:Value) (g g':Rr.Sg) (s:Stm) (b off:Nat) (cs:List Value),
  Rc w L rb pb lb fuel lc P cv av nv qv ev g→Rf w fb rb deep X vo vc nbs env back→Ap X L rb lb pb ev→At w (fun b=>b<L) b off cs→StIs w (fun b=>b<L) s cs→T deep env back s g=some (env',back',g')→
  Calls Tryz.prog 56 #[.pointer (some ⟨fb,0,none⟩),.pointer (some ⟨b,off,none⟩)] w fun r w'=>r=.returned (.tuple #[])∧FrP L rb pb lb fuel lc fb deep X ev w env' back' g' w'
def BlC (L rb pb lb fuel lc:Nat)(P:Prg)(cv av nv qv:Value)(B:Nat→Rr.Env→Int→List Stm→Rr.Sg→Option (Rr.Env×Int×Rr.Sg)):Prop:=
 ∀(w:World) (deep fb:Nat) (X:Nat→Prop) (vo:Option Addr) (vc:Nat) (nbs:List Nat) (env env':Rr.Env) (back back':Int) (ev:Value) (g g':Rr.Sg) (l:List Stm) (v:Value),
  Rc w L rb pb lb fuel lc P cv av nv qv ev g→Rf w fb rb deep X vo vc nbs env back→Ap X L rb lb pb ev→RwV StIs w (fun b=>b<L) 15 v l→l.length≤1000→B deep env back l g=some (env',back',g')→
  Calls Tryz.prog 31 #[.pointer (some ⟨fb,0,none⟩),v] w fun r w'=>r=.returned (.tuple #[])∧FrP L rb pb lb fuel lc fb deep X ev w env' back' g' w'
def BkI (L rb pb lb fuel lc:Nat)(P:Prg)(cv av nv qv:Value)(T:Rr.Env→Int→Stm→Rr.Sg→Option (Rr.Env×Int×Rr.Sg))(fb deep:Nat)(X:Nat→Prop)(ev:Value)(w wr:World)(l:List Stm)(k0:Nat)(r:Rr.Env×Int×Rr.Sg)(i:Nat):Prop:=
 ∃(X1:Nat→Prop) (vo:Option Addr) (vc:Nat) (nbs:List Nat) (env:Rr.Env) (back:Int) (ev1:Value) (g:Rr.Sg),Rr.seqS T env back (l.drop i) g=some r∧k0≤env.length∧Rc wr L rb pb lb fuel lc P cv av nv qv ev1 g∧Rf wr fb rb deep X1 vo vc nbs env back∧Ap X1 L rb lb pb ev1∧Kf X X1 rb lb ev ev1 w wr
theorem blockC {L rb pb lb fuel lc:Nat}{P:Prg}{cv av nv qv:Value}{T:Nat→Rr.Env→Int→Stm→Rr.Sg→Option (Rr.Env×Int×Rr.Sg)}(hT:StmC L rb pb lb fuel lc P cv av nv qv T)(hL:∀d e b s g r,T d e b s g=some r→e.length≤r.1.length):BlC L rb pb lb fuel lc P cv av nv qv (fun deep env b l g=>(Rr.seqS (T deep) env b l g).map fun u=>(u.1.take env.length,u.2.1,u.2.2)):=by
 intro w deep fb X vo vc nbs env env' back back' ev g g' l v hR hF hA hrw hn hq
 obtain⟨css,⟨ao,b,off,c,rfl,hr⟩,hc,hk⟩:=hrw
 obtain⟨⟨eE,bE,gE⟩,hsq,hq⟩:=Option.map_eq_some_iff.1 hq
 simp only[Prod.mk.injEq] at hq
 obtain⟨rfl,rfl,rfl⟩:=hq
 obtain⟨m,hm⟩:∃m,m=css.length:=⟨_,rfl⟩
 obtain⟨k0,hk0⟩:∃k,k=env.length:=⟨_,rfl⟩
 have z2:w.cell? ⟨fb,2,none⟩=some (.slice vo k0 vc):=by rw[hk0];exact cl hF.blk 2 rfl
 have hfl:=lt_of_block hF.blk
 rw[←hm,←hk0]
 have HM:=hidq hm
 have HT:=hidq hT
 have HLL:=hidq hL
 have HROW:=hidq hr
 have HC:=hidq hc
 have HK:=hidq hk
 have HR:=hidq hR
 have HA:=hidq hA
 have hm1:m≤1000:=by omega
 have HS:Hid (BkI L rb pb lb fuel lc P cv av nv qv (T deep) fb deep X ev w w l k0 (eE,bE,gE) 0):=⟨X,vo,vc,nbs,env,back,ev,g,hsq,by omega,hR,hF,hA,⟨Keeps.refl _ _,fun _ h=>.inl h,fun _ h=>.inl h,Sm.refl _⟩⟩
 clear hR hF hA hr hc hk hsq hT hL hm hn hk0
 go_enter Tryz.func31,Tryz.ntmps31
 go_wp2
 go_loopw [13] (fun i wr=>∃k:Nat,k≤m∧i=.int .i64 k∧Hid (BkI L rb pb lb fuel lc P cv av nv qv (T deep) fb deep X ev w wr l k0 (eE,bE,gE) k)) (fun i _=>m - (intOf i).toNat)
 case atStart=>exact⟨0,Nat.zero_le _,rfl,HS⟩
 case round=>
  clear HS z2 hfl
  obtain⟨k,hk,rfl,HI⟩:=hrel
  obtain⟨X1,vo1,vc1,nbs1,env1,back1,ev1,g1,hsq,hle,hRc,hRf,hAp,hKf⟩:=HI.out
  by_cases hlt:k<m
  ·have hka:k<l.length:=by have:=HM.out;have:=HC.out;omega
   have hkc:k<css.length:=by have:=HM.out;omega
   rw[List.drop_eq_getElem_cons hka] at hsq
   unfold Rr.seqS at hsq
   obtain⟨⟨e2,b2,g2⟩,hv,hs'⟩:=Option.bind_eq_some_iff.1 hsq
   have hkeep:Keeps (fun b=>b<L) w wr:=⟨hKf.kp.size,fun b hb hl=>hKf.kp.block b ⟨by have:=HR.out.rs.rl;omega,by have:=HR.out.rs.ll;omega,fun e=>by have:=(HR.out.rs.evl b e.symm).1;omega,fun e=>by have:=(HA.out b e).1;omega⟩ hl⟩
   have hcall:=HT.out wr deep fb X1 vo1 vc1 nbs1 env1 e2 back1 b2 ev1 g1 g2 l[k] b (off+k*15) css[k] hRc hRf hAp ((HROW.out.at hkc).keeps hkeep) ((HK.out k hka hkc).keeps hkeep) hv
   have hadr:=HROW.out.adr (by omega)
   have hbl:b<wr.heap.size:=Nat.lt_of_lt_of_le (HROW.out.lt (by omega)) hKf.kp.size
   have HNX:Hid (∀w1,FrP L rb pb lb fuel lc fb deep X1 ev1 wr e2 b2 g2 w1→BkI L rb pb lb fuel lc P cv av nv qv (T deep) fb deep X ev w w1 l k0 (eE,bE,gE) (k+1)):=fun w1 ⟨X2,vo2,vc2,nbs2,ev2,q1,q2,q3,q4⟩=>⟨X2,vo2,vc2,nbs2,e2,b2,ev2,g2,hs',by have:=HLL.out _ _ _ _ _ _ hv;simp at this;omega,hRc.nextF hAp q1 q4,q2,q3,hKf.trans q4⟩
   have hfb:=lt_of_block hRf.blk
   clear hsq hle hRc hRf hAp hKf hv hs' hkeep HI
   subst hadr
   go_wp2_with fail
   refine hcall.mono ?_
   rintro x w1 ⟨rfl,hp⟩
   have HN:=hidq (HNX.out w1 hp)
   clear hcall hp
   go_wp2
   go_roundw
   case rel=>exact⟨k+1,by omega,by go_num,HN⟩
   case measure=>simp[intOf];omega
  ·obtain rfl:k=m:=by omega
   have hend:(env1,back1,g1)=(eE,bE,gE):=by
    rw[List.drop_of_length_le (by have:=HM.out;have:=HC.out;omega)] at hsq
    unfold Rr.seqS at hsq
    exact Option.some.inj hsq
   simp only[Prod.mk.injEq] at hend
   obtain⟨rfl,rfl,rfl⟩:=hend
   have z3:wr.cell? ⟨fb,2,none⟩=some (.slice vo1 env1.length vc1):=cl hRf.blk 2 rfl
   have zf:=fz hRf.blk 2
   have hfb:=lt_of_block hRf.blk
   have hx:=hAp fb hRf.xf
   have HFIN:Hid (FrP L rb pb lb fuel lc fb deep X ev w (env1.take k0) back1 g1 (wr.setCell ⟨fb,2,none⟩ (.slice vo1 k0 vc1))):=⟨X1,vo1,vc1,nbs1.take k0,ev1,hRc.rs.same (fun b hb=>Below.heap_setCell _ _ _ _ (by
    rcases hb with h | h | h | h
    ·show b≠fb;omega
    ·rw[h];exact Ne.symm hx.2.1
    ·rw[h];exact Ne.symm hx.2.2.1
    ·exact fun e=>hx.2.2.2.2 (by rw[h,show b=fb from e]))),hRf.cut hle,hAp,hKf.trans ⟨⟨by simp[World.setCell],fun b hb _=>Below.heap_setCell _ _ _ _ (fun e=>hb.2.2.2 (by rw[show b=fb from e];exact hRf.xf))⟩,fun _ h=>.inl h,fun _ h=>.inl h,Sm.set _ _ _⟩⟩
   obtain⟨cs1,ho,_⟩:=hRf.own.ex
   obtain⟨n1,hn1⟩:∃n,n=env1.length:=⟨_,rfl⟩
   rw[←hn1] at z3 hle
   have hcase:(vo1=none∧n1=0∧vc1=0)∨∃gb,vo1=some ⟨gb,0,none⟩∧n1≤vc1∧vc1≤maxLen:=by
    rcases ho.2 with⟨h1,_⟩|⟨gb,cap,cur,h1,_,_,h4,h5,_⟩
    ·rw[←hn1] at h1
     cases h1
     exact .inl ⟨rfl,rfl,rfl⟩
    ·simp only[Value.slice.injEq] at h1
     exact .inr ⟨gb,h1.1,by rw[h1.2.2];omega,by rw[h1.2.2];exact h5⟩
   clear hsq hRc hRf hAp hKf HI ho hn1 hx
   rcases hcase with⟨rfl,rfl,rfl⟩|⟨gb,rfl,hc1,hc2⟩
   ·obtain rfl:k0=0:=by omega
    go_wp2
    go_end0
    exact⟨rfl,HFIN.out⟩
   ·unfold maxLen at hc2
    go_wp2
    go_end0
    exact⟨rfl,HFIN.out⟩
theorem step_some {fuel:Nat}{g g1:Rr.Sg}(h:Rr.stepF fuel g=some g1):g.steps<fuel∧g1={g with steps:=g.steps+1}:=by
 unfold Rr.stepF at h
 split at h
 ·exact⟨by assumption,(Option.some.inj h).symm⟩
 ·cases h
theorem fVr1 (x y z:Value)(w:World):(Instr.field 92 (.agg #[x,y,z]) 1).run Tryz.prog w=.ok y w:=by kernel_rfl
theorem fVr2 (x y z:Value)(w:World):(Instr.field 92 (.agg #[x,y,z]) 2).run Tryz.prog w=.ok z w:=by kernel_rfl
theorem value_small {L rb pb lb fuel lc:Nat}{P:Prg}{cv av nv qv:Value}{S:Rr.Sem}{w:World}{deep fb:Nat}{X:Nat→Prop}{vo:Option Addr}{vc:Nat}{nbs:List Nat}{env:Rr.Env}{back:Int}{ev:Value}{g g':Rr.Sg}{k p c t:Int}{s:ByteArray}{l:List Po}{a:List Tr}{b off:Nat}{cs:List Value}{n:Int}
 (hR:Rc w L rb pb lb fuel lc P cv av nv qv ev g) (hF:Rf w fb rb deep X vo vc nbs env back) (hA:Ap X L rb lb pb ev) (hat:At w (fun b=>b<L) b off cs) (htr:TrIs w (fun b=>b<L) (.mk k p c t s l a) cs) (hk:k=1∨k=2) (hq:Rr.valF P fuel S deep env (.mk k p c t s l a) g=some (n,g')):
 Calls Tryz.prog 92 #[.pointer (some ⟨fb,0,none⟩),.pointer (some ⟨b,off,none⟩)] w fun r w'=>r=.returned (.int .i64 n)∧∃ev',RS w' L rb pb lb fuel lc ev' g'∧Kr rb lb ev ev' w w':=by
 unfold Rr.valF at hq
 obtain⟨g1,hs,hq⟩:=Option.bind_eq_some_iff.1 hq
 obtain⟨hlt,rfl⟩:=step_some hs
 cases htr with
 | mk hsz hl hr hc hkk=>
  have hst:=stepC hR.rs hlt
  have f0:w.cell? ⟨fb,0,none⟩=some (.pointer (some ⟨rb,0,none⟩)):=cl hF.blk 0 rfl
  have hfl:=lt_of_block hF.blk
  have HNX:Hid (∀w',RS w' L rb pb lb fuel lc ev {g with steps:=g.steps+1}→Kr rb lb ev ev w w'→At w' (fun b=>b<L) b off _∧Rf w' fb rb deep X vo vc nbs env back):=fun w' q1 q2=>⟨hat.next hR.rs.rl hR.rs.ll (fun k e=>(hR.rs.evl k e).1) q2,hF.next hA q2⟩
  rcases hk with rfl | rfl
  ·have hq':(c,({g with steps:=g.steps+1}:Rr.Sg))=(n,g'):=Option.some.inj hq
   obtain⟨rfl,rfl⟩:=Prod.mk.inj hq'
   clear hq hq' hR hF hA hat hl hr hc hkk hs
   go_enter Tryz.func92,Tryz.ntmps92
   go_wp2_with fail
   refine hst.mono ?_
   rintro x w1 ⟨rfl,hr1,hk1⟩
   obtain⟨hat1,_⟩:=HNX.out w1 hr1 hk1
   have z0:w1.cell? ⟨b,off,none⟩=some (.int .i64 1):=hat1.cell 0 _ rfl
   have z2:w1.cell? ⟨b,off+2,none⟩=some (.int .i64 c):=hat1.cell 2 _ rfl
   have hb1:=hat1.lt
   have HRK:=hidq (And.intro hr1 hk1)
   clear hr1 hk1 hat1 hst
   go_wp2
   go_ret
   exact⟨rfl,ev,HRK.out.1,HRK.out.2⟩
  ·have hq':(Rr.findE env s).map (·,({g with steps:=g.steps+1}:Rr.Sg))=some (n,g'):=hq
   obtain⟨n1,hfe,hq''⟩:=Option.map_eq_some_iff.1 hq'
   obtain⟨rfl,rfl⟩:=Prod.mk.inj hq''
   obtain⟨i,hi,h1,h2,h3⟩:=findE_first hfe
   have HFE:=hidq (And.intro h1 h2)
   have HLT:=hidq h3
   clear hq hq' hq'' hR hF hA hat hl hr hc hkk hs hfe h1 h2 h3
   go_enter Tryz.func92,Tryz.ntmps92
   go_wp2_with fail
   refine hst.mono ?_
   rintro x w1 ⟨rfl,hr1,hk1⟩
   obtain⟨hat1,hF1⟩:=HNX.out w1 hr1 hk1
   have z0:w1.cell? ⟨b,off,none⟩=some (.int .i64 2):=hat1.cell 0 _ rfl
   have z4:w1.cell? ⟨b,off+4,none⟩=some (.string s):=hat1.cell 4 _ rfl
   have hb1:=hat1.lt
   have hfi:=findC hF1 hi HFE.out.1 HLT.out
   have hin:i<nbs.length:=by rw[hF1.len];exact hi
   have hbx:=hF1.box i hi hin
   rw[HFE.out.2] at hbx
   have HBX:=hidq hbx
   have HRK:=hidq (And.intro hr1 hk1)
   obtain⟨nb,hnb⟩:∃x,x=nbs[i]:=⟨_,rfl⟩
   rw[←hnb] at HBX hfi
   have hfj:Calls Tryz.prog 93 #[.pointer (some ⟨fb,0,none⟩),.string s] w1 fun x w'=>x=.returned (.agg #[.string s,.func (.func 54) #[] #[.pointer (some ⟨nb,0,none⟩)],.func (.func 55) #[] #[.pointer (some ⟨nb,0,none⟩)]])∧Below w1.heap.size w1 w':=hfi
   clear hr1 hk1 hat1 hst hF1 hbx hnb hfi
   go_wp2_with fail
   refine hfj.mono ?_
   rintro x w2 ⟨rfl,hb2⟩
   have hbx2:=ku hb2 HBX.out
   have HRK2:Hid (RS w2 L rb pb lb fuel lc ev {g with steps:=g.steps+1}∧Kr rb lb ev ev w w2):=by
    have hr:=HRK.out.1
    refine⟨hr.same fun b hb=>hb2.block b (by
     have h1:=lt_of_block hr.blk
     obtain⟨C,h2,_⟩:=hr.lef
     have h3:=lt_of_block h2
     have h4:=hr.rl
     rcases hb with h | h | h | h
     ·omega
     ·omega
     ·omega
     ·exact(hr.evl b h).2),HRK.out.2.trans ⟨⟨hb2.size,fun b _ hl=>hb2.block b hl⟩,fun _ h=>.inl h,Sm.bel hb2⟩⟩
   have hge:=getC hbx2
   have ff:=fVr1
   clear hfj hb2 hbx2
   go_wp2_with fail
   refine hge.mono ?_
   rintro x w3 ⟨rfl,rfl⟩
   go_wp2
   go_ret
   exact⟨rfl,ev,HRK2.out.1,HRK2.out.2⟩
theorem value_op {L rb pb lb fuel lc:Nat}{P:Prg}{cv av nv qv:Value}{S:Rr.Sem}(hV:ValC L rb pb lb fuel lc P cv av nv qv S.val){w:World}{deep fb:Nat}{X:Nat→Prop}{vo:Option Addr}{vc:Nat}{nbs:List Nat}{env:Rr.Env}{back:Int}{ev:Value}{g g':Rr.Sg}{p c t:Int}{s:ByteArray}{l:List Po}{a:List Tr}{b off:Nat}{cs:List Value}{n:Int}
 (hR:Rc w L rb pb lb fuel lc P cv av nv qv ev g) (hF:Rf w fb rb deep X vo vc nbs env back) (hA:Ap X L rb lb pb ev) (hat:At w (fun b=>b<L) b off cs) (htr:TrIs w (fun b=>b<L) (.mk 3 p c t s l a) cs) (hn:a.length≤1000) (hq:Rr.valF P fuel S deep env (.mk 3 p c t s l a) g=some (n,g')):
 Calls Tryz.prog 92 #[.pointer (some ⟨fb,0,none⟩),.pointer (some ⟨b,off,none⟩)] w fun r w'=>r=.returned (.int .i64 n)∧∃ev',RS w' L rb pb lb fuel lc ev' g'∧Kr rb lb ev ev' w w':=by
 unfold Rr.valF at hq
 obtain⟨g1,hs,hq⟩:=Option.bind_eq_some_iff.1 hq
 obtain⟨hlt,rfl⟩:=step_some hs
 have hq':((Rr.seqV (S.val deep env) a ({g with steps:=g.steps+1}:Rr.Sg)).bind fun u=>match u.1 with
  |[c,d]=>(Rr.reck s.data.toList c d).map (·,u.2)
  | _=>none)=some (n,g'):=hq
 obtain⟨⟨us,g2⟩,hsq,hq2⟩:=Option.bind_eq_some_iff.1 hq'
 match us,hq2,hsq with
 |[c1,d1],hq2,hsq=>
  obtain⟨m,hm,hq3⟩:=Option.map_eq_some_iff.1 hq2
  obtain⟨rfl,rfl⟩:=Prod.mk.inj hq3
  have hst:=stepC hR.rs hlt
  have f0:w.cell? ⟨fb,0,none⟩=some (.pointer (some ⟨rb,0,none⟩)):=cl hF.blk 0 rfl
  have hfl:=lt_of_block hF.blk
  have HNX:Hid (∀w',RS w' L rb pb lb fuel lc ev {g with steps:=g.steps+1}→Kr rb lb ev ev w w'→(w'.cell? ⟨b,off,none⟩=some (.int .i64 3)∧b<w'.heap.size)∧Calls Tryz.prog 128 #[.pointer (some ⟨fb,0,none⟩),.pointer (some ⟨b,off,none⟩)] w' fun r w''=>r=.returned (.int .i64 m)∧∃ev',RS w'' L rb pb lb fuel lc ev' g2∧Kr rb lb ev ev' w w''):=fun w' q1 q2=>by
   have hlow:∀b,b<L→b<w.heap.size→w'.heap[b]? =w.heap[b]? :=fun b hb hl=>q2.low hR.rs.rl hR.rs.ll (fun k e=>(hR.rs.evl k e).1) hb hl
   have hat1:=hat.next hR.rs.rl hR.rs.ll (fun k e=>(hR.rs.evl k e).1) q2
   have htr1:=htr.keeps ⟨q2.kp.size,fun b hb hl=>hlow b hb hl⟩
   have z0:w'.cell? ⟨b,off,none⟩=some (.int .i64 3):=by
    cases htr with
    | mk=>exact hat1.cell 0 _ rfl
   exact⟨⟨z0,hat1.lt⟩,(opC hV (hR.next q1 q2) (hF.next hA q2) (hA.next (fun b hb=>(hF.up b hb).2) q2) hat1 htr1 hsq hn hm).mono fun r w'' ⟨h1,ev',h2,h3⟩=>⟨h1,ev',h2,q2.trans h3⟩⟩
  clear hq hq' hq2 hq3 hR hF hA hat htr hs hsq hm hV hn
  go_enter Tryz.func92,Tryz.ntmps92
  go_wp2_with fail
  refine hst.mono ?_
  rintro x w1 ⟨rfl,hr1,hk1⟩
  obtain⟨⟨z0,hb1⟩,hop⟩:=HNX.out w1 hr1 hk1
  clear hr1 hk1 hst
  go_wp2_with fail
  refine hop.mono ?_
  rintro x w2 ⟨rfl,hrest⟩
  have HRE:=hidq hrest
  clear hrest hop
  go_wp2
  go_ret
  exact⟨rfl,HRE.out⟩
theorem Tryz.infoVr:(Tryz.prog.info? 92).map (fun i=>(i.zero,i.size,i.bytes))=some (some (.agg #[.string ⟨#[]⟩,.nilFunc,.nilFunc]),3,32):=by kernel_rfl
theorem Rf.new {w w1:World}{rb deep:Nat}(h:w1=w.alloc (.cells #[.pointer (some ⟨rb,0,none⟩),.int .i64 (deep:Nat),.slice none 0 0,.int .i64 0] 82)):Rf w1 w.heap.size rb deep (fun b=>b=w.heap.size) none 0 [] [] 0:=by
 refine⟨aa h,OwnL.nil _ _ _ _ _,rfl,(fun i hi=>by simp at hi),List.nodup_nil,(fun n hn=>by simp at hn),rfl,(fun k e=>by cases e),fun b hb=>⟨by omega,by rw[hb,as1 h];omega⟩,by simp⟩
structure DoI (w wr:World)(rb deep:Nat)(names:List ByteArray)(ns:List Int)(k:Nat):Prop where
 bel:Below w.heap.size w wr
 fr:∃X vo vc nbs,Rf wr w.heap.size rb deep X vo vc nbs ((names.zip ns).take k) 0
theorem doI_next {w wr w1 w2:World}{rb deep:Nat}{names:List ByteArray}{ns:List Int}{k:Nat}{X:Nat→Prop}{vo vo':Option Addr}{vc vc':Nat}{nbs:List Nat}(hb:Below w.heap.size w wr)(h:Rf wr w.heap.size rb deep X vo vc nbs ((names.zip ns).take k) 0)(hk:k<(names.zip ns).length)(hk2:k<1000){nb:Nat}{css:List (List Value)}(hb1:Below wr.heap.size wr w1)(hnb:w1.heap[nb]? =some (.cells #[.int .i64 (names.zip ns)[k].2] 3 (0,0)))(hnw:wr.heap.size≤nb)(hcl:css.length=((((names.zip ns).take k).map (·.1)).zip nbs).length)(h3:∀i (h:i<((((names.zip ns).take k).map (·.1)).zip nbs).length) (h':i<css.length),VrIs wr (SB (w.heap.size+1) (.slice vo ((names.zip ns).take k).length vc)) ((((names.zip ns).take k).map (·.1)).zip nbs)[i] css[i])
 (h2:w2.ownsRow (w.heap.size+1) 92 3 (.slice vo' (((names.zip ns).take k).length+1) vc') (((names.zip ns).take k).length+1) (css.flatten++varC (names.zip ns)[k].1 nb)) (hg:w1.grownBy w2 (.slice vo ((names.zip ns).take k).length vc:Value).ownBlock) (hv:(.slice vo' (((names.zip ns).take k).length+1) vc':Value).ownBlock=(.slice vo ((names.zip ns).take k).length vc:Value).ownBlock∨(.slice vo' (((names.zip ns).take k).length+1) vc':Value).ownBlock=some w1.heap.size):
 DoI w (w2.setCell ⟨w.heap.size,2,none⟩ (.slice vo' (((names.zip ns).take k).length+1) vc')) rb deep names ns (k+1):=by
 have hr:=h.add (by rw[List.length_take];omega) hb1 hnb hnw hcl h3 h2 hg hv
 have hz:=hb.size
 have e:(names.zip ns).take (k+1)=(names.zip ns).take k++[((names.zip ns)[k].1,(names.zip ns)[k].2)]:=List.take_succ_eq_append_getElem hk
 rw[←e] at hr
 refine⟨?_,⟨_,_,_,_,hr⟩⟩
 ·exact((hb.trans (hb1.mono hz)).grown hg (by have:=hb1.size;omega) (fun j e=>(h.up j (h.xo j e)).1)).setCell (Nat.le_refl _) _
end Go.Proofs.YtepkhlpjgnckkaaGreatDoor
