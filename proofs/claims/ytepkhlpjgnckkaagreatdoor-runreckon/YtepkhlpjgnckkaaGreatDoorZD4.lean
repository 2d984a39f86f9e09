/- The law RunReckon. And more of the same. -/
import Derived.Test.YtepkhlpjgnckkaaGreatDoorZD3
import Derived.OpenShut
import Derived.Deep.Slices
import Derived.Deep.Strs
import Derived.Lib.LaidTab
import Derived.Lib.LaidU8
import Derived.WalkSmall
namespace Go.Proofs.YtepkhlpjgnckkaaGreatDoor
set_option maxRecDepth 100000
set_option maxHeartbeats 8000000
open Go.RowKit
open Par (Tr Stm Prm Chn Prc Prg Po ba)
theorem rkV_two (o:Option Int):∃n e:Int,rkV o=.tuple #[.int .i64 n,.int .i64 e]:=by
 cases o with
 | none=>exact⟨_,_,rfl⟩
 | some n=>exact⟨_,_,rfl⟩
theorem law_rr {w:World}{l:List UInt8}{a b:Int}{cv av qv:Value}{ao co:Option Addr}{ab aoff cb coff ac cc:Nat}{ns:List Nat}{bs:List Bool}(hl:LevAt w w.heap.size)(b1: -9223372036854775808≤b)(b2:b<9223372036854775808)(hm:ns.length≤maxLen)(hi:InR w ao ab aoff ns)(hc:ChR w co cb coff bs):
 Calls Tryz.prog 3 #[.string (ba l),.int .i64 a,.int .i64 b,.agg #[cv,av,.slice co bs.length cc,qv],.slice ao ns.length ac] w fun x w'=>x=.returned (.bool true)∧Below w.heap.size w w':=by
 obtain⟨n,e,hne⟩:=rkV_two (Rr.reck l a b)
 obtain⟨w1,hw1⟩:∃w1,w1=w.alloc (.cells #[cv,av,.slice co bs.length cc,qv] 27):=⟨_,rfl⟩
 have hb1:=al1 hw1
 have hl1:LevAt w1 w1.heap.size:=(hl.keeps hb1.size fun b hb=>hb1.block b hb).mono hb1.size
 have hk:=reckC hl1 l a b
 have hd:=reckDC l a b w1 b1 b2
 rw[hne] at hk hd
 have hbk:=aa hw1
 have HBK:=hidq hbk
 have HLV:Hid (∀W,Below w1.heap.size w1 W→LevAt W W.heap.size):=fun W hW=>(hl1.keeps hW.size fun b hb=>hW.block b hb).mono hW.size
 have HRAN:Hid (∀W,Below w1.heap.size w1 W→Calls Tryz.prog 6 #[] W fun x w'=>x=.returned (.bool true)∧Below w1.heap.size w1 w'):=fun W hW=>(ranC (HLV.out W hW)).mono fun x w' ⟨h1,h2⟩=>⟨h1,bu hW h2⟩
 obtain⟨bn,hbn⟩:∃n,n=bs.length:=⟨_,rfl⟩
 obtain⟨nn,hnn⟩:∃n,n=ns.length:=⟨_,rfl⟩
 obtain⟨r,hr⟩:∃r,r=inpF ns bs:=⟨_,rfl⟩
 have HIN:Hid (∀W,Below w1.heap.size w1 W→Calls Tryz.prog 7 #[.agg #[cv,av,.slice co bn cc,qv],.slice ao nn ac] W fun x w'=>x=.returned (.int .i64 r)∧Below w1.heap.size w1 w'):=fun W hW=>by
  rw[hbn,hnn,hr]
  exact(inputsC hm (hi.later (bu hb1 hW)) (hc.later (bu hb1 hW))).mono fun x w' ⟨h1,h2⟩=>⟨h1,bu hW h2⟩
 have HIM:Hid (∀W,Below w1.heap.size w1 W→Calls Tryz.prog 8 #[.agg #[cv,av,.slice co bn cc,qv],.slice ao nn ac] W fun x w'=>x=.returned (.int .i64 r)∧Below w1.heap.size w1 w'):=fun W hW=>by
  rw[hbn,hnn,hr]
  exact(inputsD hm (hi.later (bu hb1 hW)) (hc.later (bu hb1 hW))).mono fun x w' ⟨h1,h2⟩=>⟨h1,bu hW h2⟩
 rw[←hbn] at HBK hw1⊢
 rw[←hnn]
 have HB1:=hidq hb1
 have e0:=cl HBK.out 0 rfl
 have e1:=cl HBK.out 1 rfl
 have e2:=cl HBK.out 2 rfl
 have e3:=cl HBK.out 3 rfl
 have el:=lt_of_block HBK.out
 clear hl hi hc hm hl1 hb1 hbk hne hbn hnn hr
 go_enter Tryz.func3,Tryz.ntmps3
 go_wp2_with fail
 rw[←hw1]
 clear hw1
 refine hk.mono ?_
 rintro x w2 ⟨rfl,hw2⟩
 have hw2':=hw2.symm
 subst hw2'
 clear hw2
 go_wp2_with fail
 refine hd.mono ?_
 rintro x w3 ⟨rfl,hw3⟩
 have hw3':=hw3.symm
 subst hw3'
 clear hw3
 clear hk hd
 have HCC:Hid (∀W,Below w1.heap.size w1 W→W.cell? ⟨w.heap.size,0,none⟩=some cv∧W.cell? ⟨w.heap.size,1,none⟩=some av∧W.cell? ⟨w.heap.size,2,none⟩=some (.slice co bn cc)∧W.cell? ⟨w.heap.size,3,none⟩=some qv∧w.heap.size<W.heap.size):=fun W hW=>by
  have h:=ku hW HBK.out
  exact⟨cl h 0 rfl,cl h 1 rfl,cl h 2 rfl,cl h 3 rfl,lt_of_block h⟩
 go_wp2
 go_region_held3 (fun W=>W.cell? ⟨w.heap.size,0,none⟩=some cv∧W.cell? ⟨w.heap.size,1,none⟩=some av∧W.cell? ⟨w.heap.size,2,none⟩=some (.slice co bn cc)∧W.cell? ⟨w.heap.size,3,none⟩=some qv) (go_keep)
  (first
    |(go_at_call 6;refine(HRAN.out _ (by exact⟨rfl,rfl,rfl,Nat.le_refl _,fun _ _=>rfl⟩)).mono ?_;rintro x w2 ⟨rfl,hb2⟩;have HB2:=hidq hb2;obtain⟨c0,c1,c2,c3,c4⟩:=HCC.out w2 hb2;clear hb2)
    |(go_at_call 7;refine(HIN.out _ (by first | exact HB4.out.trans ⟨rfl,rfl,rfl,Nat.le_refl _,fun _ _=>rfl⟩| exact HB2.out.trans ⟨rfl,rfl,rfl,Nat.le_refl _,fun _ _=>rfl⟩)).mono ?_;rintro x w3 ⟨rfl,hb3⟩;have HB3:=hidq hb3;obtain⟨d0,d1,d2,d3,d4⟩:=HCC.out w3 hb3;clear hb3)
    |(go_at_call 8;refine(HIM.out _ (by first | exact HB3.out.trans ⟨rfl,rfl,rfl,Nat.le_refl _,fun _ _=>rfl⟩| exact HB2.out.trans ⟨rfl,rfl,rfl,Nat.le_refl _,fun _ _=>rfl⟩)).mono ?_;rintro x w4 ⟨rfl,hb4⟩;have HB4:=hidq hb4;obtain⟨f0,f1,f2,f3,f4⟩:=HCC.out w4 hb4;clear hb4))
 all_goals go_wp2
 all_goals go_ret
 all_goals first
  | exact⟨rfl,bu HB1.out HB4.out⟩
  | exact⟨rfl,bu HB1.out HB3.out⟩
section
open Go.RowKit Go.ChangeShapes Go.WideShapes Go.Deep
theorem cellsStrV:Tryz.prog.cellsOf 9=1:=by kernel_rfl
theorem cellsStrsV:Tryz.prog.cellsOf 22=1:=by kernel_rfl
def strsD {H:Type}(L:List ByteArray):DataW H:=.slice (L.map fun s=>.lit (.string s.data.toList)) []
theorem strs_laid {H:Type}{enc:TypeId×Value→H}{w:World}{base fuel:Nat}{sp:Nat→Bool}{held:Bool}{v:Value}{L:List ByteArray}{p:List MemPlace}(h:DataW.trod enc Tryz.prog w base sp held fuel 22 [v]=some (strsD L,p)):
 ∃ao b off c,v=.slice ao L.length c∧Strs w ao b off L:=by
 rcases open_slice1 Tryz.underlying22 cellsStrV h with⟨_,hx⟩|⟨a,len,cap,m,n,V,D,Pl,hcs,_,hl,_,hmm,hx,hall⟩
 ·cases hx
 ·simp only[List.cons.injEq,and_true] at hcs
  injection hx with hx _
  injection hx with hx _
  have hlen:len=L.length:=by
   have:=congrArg List.length hx
   simp at this
   omega
  have hlm:len≤m:=by rw[hmm];split<;>omega
  subst hlen
  have each:∀i (hi:i<L.length),w.cell? (a.add i)=some (.string L[i]):=by
   intro i hi
   obtain⟨h1,h2⟩:=hall i (by omega)
   obtain⟨s,e1,e2,_⟩:=DataW.trod_string Tryz.underlying9 h2
   simp only[List.cons.injEq,and_true] at e1
   injection e2 with e2 _
   have h3:(L.map fun s=>(DataW.lit (.string s.data.toList):DataW H))[i]? =((List.range L.length).map D)[i]? :=by rw[hx]
   simp only[List.getElem?_map,List.getElem?_eq_getElem hi,Option.map_some,List.getElem?_range hi,Option.some.injEq] at h3
   rw[e2] at h3
   injection h3 with h3
   injection h3 with h3
   have:s=L[i]:=ByteArray.ext (Array.ext' h3.symm)
   rw[h1,e1,this]
  obtain⟨b,off,spot⟩:=a
  have hspot:0<L.length→spot=none:=fun hp=>by simpa[Addr.add] using World.cell?_spot (each 0 hp)
  have hadd:∀j,0<L.length→(⟨b,off,spot⟩:Addr).add j=⟨b,off+j,none⟩:=fun j hp=>by rw[hspot hp];simp[Addr.add]
  refine⟨some ⟨b,off,spot⟩,b,off,cap,hcs,⟨fun hp=>by rw[hspot hp],fun k hk=> ?_,fun hp=> ?_⟩⟩
  ·have:=each k hk
   rwa [hadd k (by omega)] at this
  ·have:=each 0 hp
   rw[hadd 0 hp] at this
   exact World.block_lt_of_cell? w _ this
def levD {H:Type}:DataW H:=.agg [strsD (sgn 0),strsD (sgn 1),strsD (sgn 2),strsD (sgn 3),strsD (sgn 4)]
theorem cellsLev:Tryz.prog.cellsOf 55=5:=by kernel_rfl
theorem levName:Tryz.prog.globalNamed "cloister/tree.levels"=some 0:=by kernel_rfl
theorem levType:(Tryz.prog.globals[0]?).map (·.type)=some 55:=by kernel_rfl
theorem lev_reads {w:World}(h:Lib.VarReads Tryz.prog w "cloister/tree.levels" levD):LevAt w w.heap.size:=by
 obtain⟨g,t,cs,fuel,p,hg,ht,hvar,hd⟩:=h
 obtain rfl:0=g:=Option.some.inj (levName.symm.trans hg)
 obtain rfl:55=t:=Option.some.inj (levType.symm.trans ht)
 obtain⟨ty,fz,hb⟩:∃ty fz,w.heap[0]? =some (.cells cs ty fz):=by
  unfold World.var? at hvar
  rw[levName,Option.bind_some] at hvar
  split at hvar
  ·rename_i cs' ty fz he
   simp only[Option.some.injEq] at hvar
   subst hvar
   exact⟨ty,fz,he⟩
  ·cases hvar
 have hlt:=lt_of_block hb
 obtain⟨xs,m,_,hx,hlen,hxl,hel⟩:=DataW.trod_array Tryz.underlying55 hd
 rw[cellsLev] at hlen
 injection hx with hx _
 injection hx with hx
 rw[cellsStrsV] at hel
 refine⟨hlt,hlt,fun i hi=> ?_⟩
 have h1:=hel i hi
 have hxi:xs[i]? =some (xs[i]'(by omega)):=List.getElem?_eq_getElem (by omega)
 rw[hxi] at h1
 have hcl:i<cs.toList.length:=by omega
 have e:(cs.toList.drop (i*1)).take 1=[cs.toList[i]]:=by
  rw[Nat.mul_one,List.drop_eq_getElem_cons hcl];rfl
 rw[e] at h1
 have hxd:(xs[i]'(by omega)).1=strsD (sgn i):=by
  have h2:(xs.map (·.1))[i]? =some (strsD (sgn i)):=by
   rw[←hx]
   match i,hi with
   | 0,_=>rfl
   | 1,_=>rfl
   | 2,_=>rfl
   | 3,_=>rfl
   | 4,_=>rfl
  rw[List.getElem?_map,hxi] at h2
  simpa using h2
 rw[show(xs[i]'(by omega))=(strsD (sgn i),(xs[i]'(by omega)).2) from Prod.ext hxd rfl] at h1
 obtain⟨ao,b,off,c,hv,hs⟩:=strs_laid h1
 refine⟨ao,b,off,c,?_,hs,hs.lt (by
  match i,hi with
  | 0,_=>decide
  | 1,_=>decide
  | 2,_=>decide
  | 3,_=>decide
  | 4,_=>decide)⟩
 rw[←hv]
 simp only[World.cell?,hb]
 simp[Array.getElem?_eq_getElem (show i<cs.size by simpa using hcl)]
end
section
open Go.RowKit Go.ChangeShapes Go.WideShapes Go.Deep
theorem Tryz.cellsPrgP:Tryz.prog.cellsOf 27=4:=by kernel_rfl
theorem Tryz.cellsChP:Tryz.prog.cellsOf 54=5:=by kernel_rfl
theorem Tryz.cellsBoolP:Tryz.prog.cellsOf 4=1:=by kernel_rfl
theorem Tryz.cellsIntP:Tryz.prog.cellsOf 3=1:=by kernel_rfl
theorem Tryz.cellsStrP:Tryz.prog.cellsOf 9=1:=by kernel_rfl
theorem Tryz.cellsLabP:Tryz.prog.cellsOf 50=1:=by kernel_rfl
theorem Tryz.cellsStrsP:Tryz.prog.cellsOf 22=1:=by kernel_rfl
theorem Tryz.cellsPrsP:Tryz.prog.cellsOf 23=1:=by kernel_rfl
theorem Tryz.cellsChsP:Tryz.prog.cellsOf 24=1:=by kernel_rfl
theorem Tryz.cellsProcsP:Tryz.prog.cellsOf 25=1:=by kernel_rfl
theorem Tryz.cellsIntsP:Tryz.prog.cellsOf 48=1:=by kernel_rfl
theorem slice_form {H:Type}{enc:TypeId×Value→H}{w:World}{t e:TypeId}{fuel:Nat}{x:DataW H×List MemPlace}{v:Value}(ht:Tryz.prog.underlying t=some (.slice e))(h:DataW.trod enc Tryz.prog w 0 (fun _=>true) true fuel t [v]=some x):∃ao len cap,v=.slice ao len cap:=by
 rcases open_slice ht h with⟨hcs,_⟩|⟨a,len',cap',m,n,D,Pl,hcs,_⟩
 ·simp at hcs;exact⟨_,_,_,hcs⟩
 ·simp at hcs;exact⟨_,_,_,hcs⟩
theorem trod_four {H:Type}{P:Program}{enc:TypeId×Value→H}{w:World}{base:Nat}{spare:Nat→Bool}{held:Bool}{t:TypeId}{f0 f1 f2 f3:Field}{fuel:Nat}{cs:List Value}{x:DataW H×List MemPlace}(ht:P.underlying t=some (.struct #[f0,f1,f2,f3]))(h:DataW.trod enc P w base spare held fuel t cs=some x):
 ∃y0 y1 y2 y3 n,DataW.trod enc P w base spare held n f0.type ((cs.drop f0.offset).take (P.cellsOf f0.type))=some y0∧DataW.trod enc P w base spare held n f1.type ((cs.drop f1.offset).take (P.cellsOf f1.type))=some y1∧DataW.trod enc P w base spare held n f2.type ((cs.drop f2.offset).take (P.cellsOf f2.type))=some y2∧DataW.trod enc P w base spare held n f3.type ((cs.drop f3.offset).take (P.cellsOf f3.type))=some y3:=by
 obtain⟨xs,n,_,rfl,hl,hlen,hf⟩:=DataW.trod_struct ht h
 match xs,hlen with
 |[y0,y1,y2,y3],_=>exact⟨y0,y1,y2,y3,n,by simpa using hf 0 f0 rfl,by simpa using hf 1 f1 rfl,by simpa using hf 2 f2 rfl,by simpa using hf 3 f3 rfl⟩
theorem trod_five {H:Type}{P:Program}{enc:TypeId×Value→H}{w:World}{base:Nat}{spare:Nat→Bool}{held:Bool}{t:TypeId}{f0 f1 f2 f3 f4:Field}{fuel:Nat}{cs:List Value}{x:DataW H×List MemPlace}(ht:P.underlying t=some (.struct #[f0,f1,f2,f3,f4]))(h:DataW.trod enc P w base spare held fuel t cs=some x):
 ∃y0 y1 y2 y3 y4 n,DataW.trod enc P w base spare held n f0.type ((cs.drop f0.offset).take (P.cellsOf f0.type))=some y0∧DataW.trod enc P w base spare held n f1.type ((cs.drop f1.offset).take (P.cellsOf f1.type))=some y1∧DataW.trod enc P w base spare held n f2.type ((cs.drop f2.offset).take (P.cellsOf f2.type))=some y2∧DataW.trod enc P w base spare held n f3.type ((cs.drop f3.offset).take (P.cellsOf f3.type))=some y3∧DataW.trod enc P w base spare held n f4.type ((cs.drop f4.offset).take (P.cellsOf f4.type))=some y4:=by
 obtain⟨xs,n,_,rfl,hl,hlen,hf⟩:=DataW.trod_struct ht h
 match xs,hlen with
 |[y0,y1,y2,y3,y4],_=>exact⟨y0,y1,y2,y3,y4,n,by simpa using hf 0 f0 rfl,by simpa using hf 1 f1 rfl,by simpa using hf 2 f2 rfl,by simpa using hf 3 f3 rfl,by simpa using hf 4 f4 rfl⟩
theorem listsR_open {H:Type}{enc:TypeId×Value→H}{w:World}{fuel:Nat}{x:DataW H×List MemPlace}{ao:Option Addr}{len cap:Nat}(h:DataW.trod enc Tryz.prog w 0 (fun _=>true) true fuel 28 [.slice ao len cap]=some x):
 len≤maxLen∧∃b off ns,len=ns.length∧InR w ao b off ns:=by
 rcases open_slice Tryz.underlying28 h with⟨hcs,_⟩|⟨a,len',cap',m,n,D,Pl,hcs,_,hl,hm,hmm,_,hx⟩
 ·simp at hcs
  obtain⟨rfl,rfl,rfl⟩:=hcs
  exact⟨Nat.zero_le _,0,0,[],rfl,⟨fun h=>by simp at h,fun k h=>by simp at h,fun h=>by simp at h⟩⟩
 ·simp at hcs
  obtain⟨rfl,rfl,rfl⟩:=hcs
  have hlm:len≤m:=by rw[hmm];split<;>omega
  refine⟨by omega,?_⟩
  have each:∀i,i<len→∃q:Option Addr×Nat×Nat,w.cell? (a.add i)=some (.slice q.1 q.2.1 q.2.2):=by
   intro i hi
   obtain⟨cs',h1,h2⟩:=hx i (by omega)
   rw[Tryz.cellsIntsP] at h1
   obtain⟨_,hlen,hcell⟩:=World.cells?_some h1
   match cs',hlen with
   |[v0],_=>
    obtain⟨o,l,c,rfl⟩:=slice_form Tryz.underlying48 h2
    have c0:=hcell 0 (by omega)
    rw[add_add] at c0
    exact⟨(o,l,c),by simpa using c0⟩
  obtain⟨q,hq⟩:=choose_lt each
  obtain⟨b,off,spot⟩:=a
  have hspot:0<len→spot=none:=fun hp=>by simpa[Addr.add] using World.cell?_spot (hq 0 hp)
  have hadd:∀j,0<len→(⟨b,off,spot⟩:Addr).add j=⟨b,off+j,none⟩:=fun j hp=>by rw[hspot hp];simp[Addr.add]
  refine⟨b,off,(List.range len).map fun i=>(q i).2.1,by simp,⟨fun hp=> ?_,fun k hk=> ?_,fun hp=> ?_⟩⟩
  ·simp at hp;rw[hspot hp]
  ·simp at hk
   have:=hq k hk
   rw[hadd _ (by omega)] at this
   exact⟨(q k).1,(q k).2.2,by simpa using this⟩
  ·simp at hp
   have:=hq 0 hp
   rw[hadd _ hp] at this
   exact World.block_lt_of_cell? w _ this
theorem chansR_open {H:Type}{enc:TypeId×Value→H}{w:World}{fuel:Nat}{x:DataW H×List MemPlace}{ao:Option Addr}{len cap:Nat}(h:DataW.trod enc Tryz.prog w 0 (fun _=>true) true fuel 24 [.slice ao len cap]=some x):
 ∃b off bs,len=bs.length∧ChR w ao b off bs:=by
 rcases open_slice Tryz.underlying24 h with⟨hcs,_⟩|⟨a,len',cap',m,n,D,Pl,hcs,_,hl,hm,hmm,_,hx⟩
 ·simp at hcs
  obtain⟨rfl,rfl,rfl⟩:=hcs
  exact⟨0,0,[],rfl,⟨fun h=>by simp at h,fun k h=>by simp at h,fun h=>by simp at h⟩⟩
 ·simp at hcs
  obtain⟨rfl,rfl,rfl⟩:=hcs
  have hlm:len≤m:=by rw[hmm];split<;>omega
  have each:∀i,i<len→∃q:Int×Bool,w.cell? (a.add (i*5))=some (.int .i64 q.1)∧w.cell? (a.add (i*5+2))=some (.bool q.2):=by
   intro i hi
   obtain⟨cs',h1,h2⟩:=hx i (by omega)
   rw[Tryz.cellsChP] at h1
   obtain⟨_,hlen,hcell⟩:=World.cells?_some h1
   obtain⟨y0,y1,y2,y3,y4,n',g0,g1,g2,g3,g4⟩:=trod_five Tryz.underlying54 h2
   match cs',hlen with
   |[v0,v1,v2,v3,v4],_=>
    simp only[Tryz.cellsLabP,Tryz.cellsIntP,Tryz.cellsStrP,Tryz.cellsBoolP] at g0 g1 g2 g3 g4
    obtain⟨z2,e2,_⟩:=DataW.trod_bool Tryz.underlying4 g2
    obtain⟨z0,e0,_,_⟩:=DataW.trod_int Tryz.underlying3 g0
    simp at e0 e2
    subst e0 e2
    have c0:=hcell 0 (by omega)
    have c2:=hcell 2 (by omega)
    rw[add_add] at c0 c2
    exact⟨(z0,z2),by simpa using c0,by simpa using c2⟩
  obtain⟨q,hq⟩:=choose_lt each
  obtain⟨b,off,spot⟩:=a
  have hspot:0<len→spot=none:=fun hp=>by simpa[Addr.add] using World.cell?_spot (hq 0 hp).1
  have hadd:∀j,0<len→(⟨b,off,spot⟩:Addr).add j=⟨b,off+j,none⟩:=fun j hp=>by rw[hspot hp];simp[Addr.add]
  refine⟨b,off,(List.range len).map fun i=>(q i).2,by simp,⟨fun hp=> ?_,fun k hk=> ?_,fun hp=> ?_⟩⟩
  ·simp at hp;rw[hspot hp]
  ·simp at hk
   have:=(hq k hk).2
   rw[hadd _ (by omega),←Nat.add_assoc] at this
   rw[this];simp
  ·simp at hp
   have:=(hq 0 hp).1
   rw[hadd _ hp] at this
   exact World.block_lt_of_cell? w _ this
theorem progR_open {H:Type}{enc:TypeId×Value→H}{w:World}{fuel:Nat}{x:DataW H×List MemPlace}{cs:List Value}(hl:cs.length=4)(h:DataW.trod enc Tryz.prog w 0 (fun _=>true) true fuel 27 cs=some x):
 ∃v0 v1 co cc v3 cb coff bs,cs=[v0,v1,.slice co (bs:List Bool).length cc,v3]∧ChR w co cb coff bs:=by
 obtain⟨y0,y1,y2,y3,n',g0,g1,g2,g3⟩:=trod_four Tryz.underlying27 h
 match cs,hl with
 |[v0,v1,v2,v3],_=>
  simp only[Tryz.cellsStrsP,Tryz.cellsPrsP,Tryz.cellsChsP,Tryz.cellsProcsP] at g0 g1 g2 g3
  have g2:DataW.trod enc Tryz.prog w 0 (fun _=>true) true n' 24 [v2]=some y2:=by simpa using g2
  obtain⟨co,cn,cc,rfl⟩:=slice_form Tryz.underlying24 g2
  obtain⟨cb,coff,bs,rfl,hc⟩:=chansR_open g2
  exact⟨v0,v1,co,cc,v3,cb,coff,bs,rfl,hc⟩
end
end Go.Proofs.YtepkhlpjgnckkaaGreatDoor
