/- What tree.Formed answers: formed, in plain words. And more of the same. -/
import Derived.Test.YtepkhlpjgnckkaaGreatDoorZB2
namespace Go.Proofs.YtepkhlpjgnckkaaGreatDoor
set_option maxRecDepth 100000
set_option maxHeartbeats 8000000
open Go.RowKit
open Par (Tok Po Tr nx atP isT ba Res)
def TrsAt (w:World)(b off n:Nat)(a:List Tr):Prop:=n=a.length∧∃(c:Nat) (css:List (List Value)),RowAt w (fun b=>b<w.heap.size) 7 (some ⟨b,off,none⟩) b off n c css∧css.length=a.length∧∀i (h:i<a.length) (h':i<css.length),TrIs w (fun b=>b<w.heap.size) a[i] css[i]
theorem TrsAt.det {w:World}{b off n:Nat}{a a':List Tr}(h:TrsAt w b off n a)(g:TrsAt w b off n a'):a=a':=by
 obtain⟨h0,c,css,hr,hl,hk⟩:=h
 obtain⟨g0,c',css',gr,gl,gk⟩:=g
 have e:css=css':=by
  refine List.ext_getElem (by omega) fun i hi hi'=> ?_
  refine List.ext_getElem ((hr.szs i hi).trans (gr.szs i hi').symm) fun j hj hj'=> ?_
  have c1:=hr.cell i hi j _ (List.getElem?_eq_getElem hj)
  have c2:=gr.cell i hi' j _ (List.getElem?_eq_getElem hj')
  exact Option.some.inj (c1.symm.trans c2)
 subst e
 exact List.ext_getElem (by omega) fun i hi hi'=>(hk i hi (by omega)).det (gk i hi' (by omega))
def InvP (w:World)(K:List PK)(d:Nat):Prop:=∀p∈K,d<p.2.2.2→∀a,TrsAt w p.1 p.2.1 p.2.2.1 a→a.all (Par.formD (12 - p.2.2.2))=true
theorem InvP.none (w:World)(d:Nat):InvP w [] d:=fun p hp=>by simp at hp
def LkC (w0:World)(B B2 d:Nat)(t:Tr):Prop:=∀(W:World) (b off:Nat) (cs:List Value) (K:List PK),Below w0.heap.size w0 W→SetP W B K→InvP w0 K d→ExAt w0 b off cs→TrIs w0 (fun b=>b<w0.heap.size) t cs→
 Calls Tryz.prog 170 #[.agg #[.map (some B),.map (some B2)],.pointer (some ⟨b,off,none⟩),.int .i64 (d:Int)] W fun x W'=>∃K',x=.returned (.bool (Par.formD (12 - d) t))∧SetP W' B K'∧W.grownBy W' (some B)∧(∀p∈K',p∈K∨d<p.2.2.2)∧(Par.formD (12 - d) t=true→InvP w0 K' d)
theorem form_alone {m:Nat}{t:Tr}(h:Par.aloneF t=false):Par.formD m t=false:=by
 cases m with
 | zero=>rfl
 | succ m=>simp[Par.formD,h]
theorem form_kids {d:Nat}(hd:d≤11){t:Tr}(h:Par.aloneF t=true):Par.formD (12 - d) t=((Par.kidsOf t).isEmpty ||(decide (d≠11) && (Par.kidsOf t).all (Par.formD (12 - (d+1))))):=by
 have e:12 - d=(11 - d)+1:=by omega
 have e2:12 - (d+1)=11 - d:=by omega
 rw[e,e2]
 simp only[Par.formD,h,Bool.true_and]
 have:decide (11 - d≠0)=decide (d≠11):=by simp;omega
 rw[this]
theorem below_dn {B:Nat}{w w':World}(h:Below B w w')(n:Nat):Below B w (w'.drewN n):=⟨h.os,h.tape,h.output,h.size,h.block⟩
theorem form_met {d:Nat}{a:List Tr}(hd:d≤11)(h0:a.isEmpty=false)(h:a.all (Par.formD (12 - (d+1)))=true):(decide (d≠11) && a.all (Par.formD (12 - (d+1))))=true:=by
 by_cases e:d=11
 ·subst e
  cases a with
  | nil=>cases h0
  | cons x r=>simp[Par.formD] at h
 ·rw[h];simp[e]
theorem gr_drew {W W1 W2:World}{B:Nat}(hb:Below W.heap.size W W1)(hg:W1.drew.grownBy W2 (some B)):W.grownBy W2 (some B):=⟨hg.os.trans hb.os,hg.tape.trans hb.tape,hg.output.trans hb.output,Nat.le_trans hb.size hg.size,fun k hk hn=>(hg.block k (Nat.lt_of_lt_of_le hk hb.size) hn).trans (hb.block k hk)⟩
theorem gr_two {W wr w3:World}{B:Nat}(h:W.grownBy wr (some B))(g:wr.drew.grownBy w3 (some B)):W.grownBy w3 (some B):=⟨g.os.trans h.os,g.tape.trans h.tape,g.output.trans h.output,Nat.le_trans h.size g.size,fun k hk hn=>(g.block k (Nat.lt_of_lt_of_le hk h.size) hn).trans (h.block k hk hn)⟩
structure LkS (w0 W wr:World)(B B2 d:Nat)(K1 Ki:List PK)(a:List Tr)(k:Nat):Prop where
 bel:Below w0.heap.size w0 wr
 gr:W.grownBy wr (some B)
 set:SetP wr B Ki
 inv:InvP w0 Ki (d+1)
 new:∀p∈Ki,p∈K1∨d+1<p.2.2.2
 all:(a.take k).all (Par.formD (12 - (d+1)))=true
 box:wr.heap[W.heap.size]? =some (.cells #[.map (some B),.map (some B2)] 124 (0,0))
theorem below_of_gr {w0 W wr:World}{B:Nat}(hW:Below w0.heap.size w0 W)(h:W.grownBy wr (some B))(hB:w0.heap.size≤B):Below w0.heap.size w0 wr:=
 ⟨h.os.trans hW.os,h.tape.trans hW.tape,h.output.trans hW.output,Nat.le_trans hW.size h.size,fun k hk=>(h.block k (Nat.lt_of_lt_of_le hk hW.size) (by simp;omega)).trans (hW.block k hk)⟩
theorem blkL {w:World}{b:Nat}{x y:Value}{e:TypeId}(h:w.heap[b]? =some (.cells #[x,y] e (0,0))):w.cell? ⟨b,0,none⟩=some x∧w.cell? ⟨b,1,none⟩=some y:=by
 constructor<;>simp[World.cell?,h]
theorem kid_at {w0:World}{ab aoff n ac:Nat}{css:List (List Value)}(h:RowAt w0 (fun b=>b<w0.heap.size) 7 (some ⟨ab,aoff,none⟩) ab aoff n ac css){i:Nat}(hi:i<css.length):ExAt w0 ab (aoff+i*7) css[i]:=
 ⟨h.lt (by omega),fun j u hu=>h.cell i hi j u hu⟩
theorem inv_up {w0:World}{d:Nat}{K Ki:List PK}{key:PK}{a:List Tr}(hI:InvP w0 K d)(hi:InvP w0 Ki (d+1))(hn:∀p∈Ki,p∈addP K key∨d+1<p.2.2.2)(hk:TrsAt w0 key.1 key.2.1 key.2.2.1 a)(hkd:key.2.2.2=d+1)(ha:a.all (Par.formD (12 - (d+1)))=true):InvP w0 Ki d:=by
 intro p hp hd b hb
 by_cases h:d+1<p.2.2.2
 ·exact hi p hp h b hb
 ·have e:p.2.2.2=d+1:=by omega
  rcases hn p hp with h1 | h1
  ·rcases mem_addP.1 h1 with h2 | rfl
   ·exact hI p h2 hd b hb
   ·have:=hk.det hb
    subst this
    rw[e];exact ha
  ·omega
theorem inv_add {w0:World}{d:Nat}{K:List PK}{key:PK}(hI:InvP w0 K d)(hkd:key.2.2.2=d+1):InvP w0 (addP K key) (d+1):=by
 intro p hp hd
 rcases mem_addP.1 hp with h | rfl
 ·exact hI p h (by omega)
 ·omega
theorem look_step {w0:World}{B B2 d:Nat}(hB:w0.heap.size≤B)(hlv:LevAt w0 w0.heap.size)(hd:d≤11)(hnext:d<11→∀t,LkC w0 B B2 (d+1) t)(t:Tr):LkC w0 B B2 d t:=by
 intro W b off cs K hW hS hI hx ht
 obtain⟨W0,hW0⟩:∃W0,W0=W.alloc (.cells #[.map (some B),.map (some B2)] 124):=⟨_,rfl⟩
 have hbW0:Below W.heap.size W W0:=by rw[hW0];exact(Below.refl _ _).alloc (Nat.le_refl _) _
 have hb0:Below w0.heap.size w0 W0:=hW.trans (hbW0.mono hW.size)
 have hx0:∀V,Below w0.heap.size w0 V→ExAt V b off cs∧TrIs V (fun b=>b<w0.heap.size) t cs:=fun V hV=>⟨hx.keeps hV.size (hV.block _ hx.lt),ht.keeps ⟨hV.size,fun b hb _=>hV.block b hb⟩⟩
 have hal:=aloneC (hx0 W0 hb0).1 (hx0 W0 hb0).2 (hlv.keeps hb0.size fun b hb=>hb0.block b hb)
 have hk0:W0.heap[W.heap.size]? =some (.cells #[.map (some B),.map (some B2)] 124 (0,0)):=by rw[hW0];exact heap_at_alloc _ _ _ rfl
 have hS0:∀V,Below W.heap.size W V→SetP V B K:=fun V hV=>hS.keeps (hV.block _ hS.lt) fun p hp=>hV.block _ (by obtain⟨cs,e,hh⟩:=hS.pl hp;exact lt_of_block hh)
 cases haf:Par.aloneF t with
 | false=>
  have HF:Hid (Par.formD (12 - d) t=false):=form_alone haf
  have HS:Hid (∀V,Below W.heap.size W V→SetP V B K):=hS0
  have HB:Hid (Below W.heap.size W W0):=hbW0
  rw[HF.out]
  rw[haf] at hal
  clear haf hx0 hS0 hx ht hI hS hW hb0 hk0 hbW0
  go_enter Tryz.func170,Tryz.ntmps170
  go_wp2_with fail
  rw[←hW0]
  clear hW0
  refine hal.mono ?_
  rintro x W1 ⟨rfl,hb1⟩
  go_wp2
  go_ret
  have hb:Below W.heap.size W W1:=HB.out.trans (hb1.mono HB.out.size)
  exact⟨K,rfl,HS.out _ hb,⟨hb.os,hb.tape,hb.output,hb.size,fun k hk _=>hb.block k hk⟩,fun p hp=>.inl hp,fun h=>by cases h⟩
 | true=>
  cases ht with
  | @mk k p n ty s l a lv av css hs hl hr hcl hk=>
  have hfk:=form_kids hd haf
  have hka:Par.kidsOf (.mk k p n ty s l a)=a:=rfl
  rw[hka] at hfk
  obtain⟨ao,ab,aoff,ac,rfl,har⟩:=hr
  have ham:=har.mx
  have hac:=har.cap
  rw[haf] at hal
  have HX0:Hid (∀V,Below w0.heap.size w0 V→ExAt V b off [.int .i64 k,.int .i64 p,.int .i64 n,.int .i64 ty,.string s,lv,.slice ao css.length ac]):=fun V hV=>(hx0 V hV).1
  have HS:Hid (∀V,Below W.heap.size W V→SetP V B K):=hS0
  have HB:Hid (Below W.heap.size W W0):=hbW0
  have HW:Hid (Below w0.heap.size w0 W):=hW
  have HK0:Hid (W0.heap[W.heap.size]? =some (.cells #[.map (some B),.map (some B2)] 124 (0,0))):=hk0
  have HFK:Hid (Par.formD (12 - d) (.mk k p n ty s l a)=(a.isEmpty ||(decide (d≠11) && a.all (Par.formD (12 - (d+1)))))):=hfk
  have hxl:=hx.lt
  have hWz:=hW.size
  have HI:Hid (InvP w0 K d):=hI
  unfold maxLen at ham
  clear haf hx0 hS0 hx hI hS hW hb0 hk0 hbW0 hfk hka
  rcases Nat.eq_zero_or_pos css.length with hn0 | hn0
  ·have HF:Hid (Par.formD (12 - d) (.mk k p n ty s l a)=true):=by
    show _=_
    rw[HFK.out,List.length_eq_zero_iff.1 (by omega:a.length=0)];rfl
   rw[HF.out]
   rw[hn0] at HX0
   clear har hcl hk hac HFK hn0
   go_enter Tryz.func170,Tryz.ntmps170
   go_wp2_with fail
   rw[←hW0]
   clear hW0
   refine hal.mono ?_
   rintro x W1 ⟨rfl,hb1⟩
   have hb:Below W.heap.size W W1:=HB.out.trans (hb1.mono HB.out.size)
   obtain⟨c0,c1,c2,c3,c4,c5,c6⟩:=(HX0.out W1 (HW.out.trans (hb.mono hWz))).all
   have hlt:=(HX0.out W1 (HW.out.trans (hb.mono hWz))).lt
   have HB1:Hid (Below W.heap.size W W1):=hb
   clear hb1 hb
   go_wp2
   go_quiet (fail)
   go_wp2
   go_ret
   have hb:=below_dn HB1.out nq
   exact⟨K,rfl,HS.out _ hb,⟨hb.os,hb.tape,hb.output,hb.size,fun k hk _=>hb.block k hk⟩,fun p hp=>.inl hp,fun _=>HI.out⟩
  ·have hao:=har.adr hn0
   subst hao
   have hpl:=har.pl hn0
   have HTA:Hid (TrsAt w0 ab aoff css.length a):=⟨hcl,ac,css,har,hcl,hk⟩
   have HKID:Hid (∀i (h:i<css.length),ExAt w0 ab (aoff+i*7) css[i]):=fun i hi=>kid_at har hi
   have HTI:Hid (∀i (h:i<a.length) (h':i<css.length),TrIs w0 (fun b=>b<w0.heap.size) a[i] css[i]):=hk
   have habl:=har.lt hn0
   have HLN:Hid (css.length=a.length):=hcl
   have HPL:Hid (Pln w0 ab):=hpl
   have HNX:Hid (d<11→∀t,LkC w0 B B2 (d+1) t):=hnext
   have hane:a.isEmpty=false:=by
    cases a with
    | nil=>have h0:css.length=0:=hcl;omega
    | cons _ _=>rfl
   have HNE:Hid (a.isEmpty=false):=hane
   rw[hane,Bool.false_or] at HFK
   obtain⟨m,hm⟩:∃m,m=css.length:=⟨_,rfl⟩
   have HM:Hid (m=css.length):=hm
   rw[←hm] at HX0 HTA hn0 hac
   clear har hcl hk hpl hnext hane hm
   have wd:IntKind.i64.wrap ((d:Int)+1)=((d+1:Nat):Int):=by rw[IntKind.wrap_i64];omega
   by_cases hmem:(ab,aoff,m,d+1)∈K
   ·have HF:Hid (Par.formD (12 - d) (.mk k p n ty s l a)=true):=by
     show _=_
     rw[HFK.out]
     exact form_met hd HNE.out (HI.out _ hmem (Nat.lt_succ_self d) a HTA.out)
    have HAD:Hid (addP K (ab,aoff,m,d+1)=K):=by show _=_;unfold addP;rw[if_pos hmem]
    have HME:Hid ((ab,aoff,m,d+1)∈K):=hmem
    rw[HF.out]
    clear HF HFK hmem
    go_enter Tryz.func170,Tryz.ntmps170
    go_wp2_with fail
    rw[←hW0]
    clear hW0
    refine hal.mono ?_
    rintro x W1 ⟨rfl,hb1⟩
    have hb:Below W.heap.size W W1:=HB.out.trans (hb1.mono HB.out.size)
    have hbw:Below w0.heap.size w0 W1:=HW.out.trans (hb.mono hWz)
    obtain⟨c0,c1,c2,c3,c4,c5,c6⟩:=(HX0.out W1 hbw).all
    have hlt:=(HX0.out W1 hbw).lt
    have hk1:W1.heap[W.heap.size]? =some (.cells #[.map (some B),.map (some B2)] 124 (0,0)):=(hb1.block _ (lt_of_block HK0.out)).trans HK0.out
    obtain⟨l0,l1⟩:=blkL hk1
    have hlk:=lt_of_block hk1
    have hmt:=metC (w:=W1.drew) (HS.out _ (below_dn hb 1)) ab aoff m ac (d+1) hn0 (HPL.out.keeps (hbw.block _ habl))
    rw[decide_eq_true HME.out,HAD.out] at hmt
    have HMT:Hid (Calls Tryz.prog 182 #[.map (some B),.slice (some ⟨ab,aoff,none⟩) m ac,.int .i64 ((d+1:Nat):Int)] W1.drew fun x w'=>x=.returned (.bool true)∧SetP w' B K∧W1.drew.grownBy w' (some B)):=hmt
    have hbB:b≠B:=by omega
    have hLB:W.heap.size≠B:=by have:=(HS.out _ (Below.refl _ _)).lt;omega
    have HB1:Hid (Below W.heap.size W W1):=hb
    have m0:((m:Int)==0)=false:=by simp;omega
    clear hmt hb1 hb hbw hk1
    go_wp2
    go_region_held3 (fun w'=>w'.cell? ⟨W.heap.size,0,none⟩=some (.map (some B))∧w'.cell? ⟨b,off+6,none⟩=some (.slice (some ⟨ab,aoff,none⟩) m ac)) (go_keep)
     (first
       |(go_at_call 182;refine(HMT.out).mono ?_;rintro x W2 ⟨rfl,hs2,hg2⟩;have HS2:Hid (SetP W2 B K):=hs2;have HG2:Hid (W1.drew.grownBy W2 (some B)):=hg2;have q0:W2.cell? ⟨W.heap.size,0,none⟩=some (.map (some B)):=(World.cell?_of_block (a:=⟨W.heap.size,0,none⟩) (hg2.block W.heap.size hlk (by simp[hLB]))).trans l0;have q1:W2.cell? ⟨b,off+6,none⟩=some (.slice (some ⟨ab,aoff,none⟩) m ac):=(World.cell?_of_block (a:=⟨b,off+6,none⟩) (hg2.block b hlt (by simp[hbB]))).trans c6;clear hs2 hg2))
    all_goals go_wp2
    all_goals go_ret
    exact⟨K,rfl,HS2.out,gr_drew HB1.out HG2.out,fun p hp=>.inl hp,fun _=>HI.out⟩
   ·have HME:Hid ((ab,aoff,m,d+1) ∉ K):=hmem
    have HADD:Hid (InvP w0 (addP K (ab,aoff,m,d+1)) (d+1)):=inv_add HI.out rfl
    clear hmem
    go_enter Tryz.func170,Tryz.ntmps170
    go_wp2_with fail
    rw[←hW0]
    clear hW0
    refine hal.mono ?_
    rintro x W1 ⟨rfl,hb1⟩
    have hb:Below W.heap.size W W1:=HB.out.trans (hb1.mono HB.out.size)
    have hbw:Below w0.heap.size w0 W1:=HW.out.trans (hb.mono hWz)
    obtain⟨c0,c1,c2,c3,c4,c5,c6⟩:=(HX0.out W1 hbw).all
    have hlt:=(HX0.out W1 hbw).lt
    have hk1:W1.heap[W.heap.size]? =some (.cells #[.map (some B),.map (some B2)] 124 (0,0)):=(hb1.block _ (lt_of_block HK0.out)).trans HK0.out
    obtain⟨l0,l1⟩:=blkL hk1
    have hlk:=lt_of_block hk1
    have hmt:=metC (w:=W1.drew) (HS.out _ (below_dn hb 1)) ab aoff m ac (d+1) hn0 (HPL.out.keeps (hbw.block _ habl))
    rw[decide_eq_false HME.out] at hmt
    have HMT:Hid (Calls Tryz.prog 182 #[.map (some B),.slice (some ⟨ab,aoff,none⟩) m ac,.int .i64 ((d+1:Nat):Int)] W1.drew fun x w'=>x=.returned (.bool false)∧SetP w' B (addP K (ab,aoff,m,d+1))∧W1.drew.grownBy w' (some B)):=hmt
    have hbB:b≠B:=by omega
    have hLB:W.heap.size≠B:=by have:=(HS.out _ (Below.refl _ _)).lt;omega
    have HB1:Hid (Below W.heap.size W W1):=hb
    have HK1:Hid (W1.heap[W.heap.size]? =some (.cells #[.map (some B),.map (some B2)] 124 (0,0))):=hk1
    have m0:((m:Int)==0)=false:=by simp;omega
    clear hmt hb1 hb hbw hk1
    go_wp2
    go_region_held3 (fun w'=>w'.cell? ⟨W.heap.size,0,none⟩=some (.map (some B))∧w'.cell? ⟨b,off+6,none⟩=some (.slice (some ⟨ab,aoff,none⟩) m ac)) (go_keep)
     (first
       |(go_at_call 182;refine(HMT.out).mono ?_;rintro x W2 ⟨rfl,hs2,hg2⟩;have HS2:Hid (SetP W2 B (addP K (ab,aoff,m,d+1))):=hs2;have HG2:Hid (W1.drew.grownBy W2 (some B)):=hg2;have q0:W2.cell? ⟨W.heap.size,0,none⟩=some (.map (some B)):=(World.cell?_of_block (a:=⟨W.heap.size,0,none⟩) (hg2.block W.heap.size hlk (by simp[hLB]))).trans l0;have q1:W2.cell? ⟨b,off+6,none⟩=some (.slice (some ⟨ab,aoff,none⟩) m ac):=(World.cell?_of_block (a:=⟨b,off+6,none⟩) (hg2.block b hlt (by simp[hbB]))).trans c6;clear hs2 hg2))
    have HGR:Hid (W.grownBy W2 (some B)):=gr_drew HB1.out HG2.out
    have hlt2:b<W2.heap.size:=by have:=HG2.out.size;have:W1.heap.size≤W2.heap.size:=this;omega
    by_cases hd11:d=11
    ·have HF:Hid (Par.formD (12 - d) (.mk k p n ty s l a)=false):=by show _=_;rw[HFK.out];simp[hd11]
     have HNEW:Hid (∀p∈addP K (ab,aoff,m,d+1),p∈K∨d<p.2.2.2):=fun p hp=>by
      rcases mem_addP.1 hp with h | rfl
      ·exact .inl h
      ·exact .inr (Nat.lt_succ_self d)
     have d1:((d:Int)+1==12)=true:=by simp[hd11]
     clear HFK HNX
     go_wp2
     go_ret
     exact⟨_,by rw[HF.out];rfl,HS2.out,HGR.out,HNEW.out,fun h=>by rw[HF.out] at h;cases h⟩
    ·have d1:((d:Int)+1==12)=false:=by simp;omega
     have HSL:Hid (LkS w0 W W2 B B2 d (addP K (ab,aoff,m,d+1)) (addP K (ab,aoff,m,d+1)) a 0):=
      ⟨below_of_gr HW.out HGR.out hB,HGR.out,HS2.out,HADD.out,fun p hp=>.inl hp,by simp,(HG2.out.block _ hlk (by simp[hLB])).trans HK1.out⟩
     have HN:Hid (∀t,LkC w0 B B2 (d+1) t):=HNX.out (by omega)
     have HFK2:Hid (Par.formD (12 - d) (.mk k p n ty s l a)=a.all (Par.formD (12 - (d+1)))):=by show _=_;rw[HFK.out];simp[hd11]
     clear HFK HNX HS2 HG2 HGR HMT HME c0 c1 c2 c3 c4 c5 c6 l0 l1 q0 HK1 HADD
     go_wp2
     go_loopw [36] (fun i wr=>∃(j:Nat) (Ki:List PK),j≤m∧i=.int .i64 j∧Hid (LkS w0 W wr B B2 d (addP K (ab,aoff,m,d+1)) Ki a j)) (fun i _=>m - (intOf i).toNat)
     case atStart=>exact⟨0,_,Nat.zero_le _,rfl,HSL⟩
     case round=>
      obtain⟨j,Ki,hj,rfl,HL⟩:=hrel
      have ml:=HM.out
      by_cases hlt':j<m
      ·have hjc:j<css.length:=by omega
       have hja:j<a.length:=by have:=HLN.out;omega
       have hxr:=(HX0.out wr HL.out.bel)
       obtain⟨_,_,_,_,_,_,c6⟩:=hxr.all
       have hxlt:=hxr.lt
       obtain⟨l0,l1⟩:=blkL HL.out.box
       have hbl:=lt_of_block HL.out.box
       have hcall:=HN.out a[j] wr.drew ab (aoff+j*7) css[j] Ki (below_dn HL.out.bel 1) (HL.out.set.keeps rfl fun _ _=>rfl) HL.out.inv (HKID.out j hjc) (HTI.out j hja hjc)
       cases hq:Par.formD (12 - (d+1)) a[j] with
       | true=>
        rw[hq] at hcall
        have HQ:Hid (Par.formD (12 - (d+1)) a[j]=true):=hq
        have HC:Hid (Calls Tryz.prog 170 #[.agg #[.map (some B),.map (some B2)],.pointer (some ⟨ab,aoff+j*7,none⟩),.int .i64 ((d+1:Nat):Int)] wr.drew fun x W'=>∃K',x=.returned (.bool true)∧SetP W' B K'∧wr.drew.grownBy W' (some B)∧(∀p∈K',p∈Ki∨d+1<p.2.2.2)∧InvP w0 K' (d+1)):=hcall.mono fun x W' ⟨K',e1,e2,e3,e4,e5⟩=>⟨K',e1,e2,e3,e4,e5 rfl⟩
        clear hcall hq hxr ml
        go_wp2
        go_region_held3 (fun w'=>w'.cell? ⟨W.heap.size,0,none⟩=some (.map (some B))∧w'.cell? ⟨W.heap.size,1,none⟩=some (.map (some B2))∧w'.cell? ⟨b,off+6,none⟩=some (.slice (some ⟨ab,aoff,none⟩) m ac)) (go_keep)
         (first
           |(go_at_call 170;refine(HC.out).mono ?_;rintro x w3 ⟨K',rfl,hs3,hg3,hn3,hi3⟩;have H3:Hid (SetP w3 B K'∧wr.drew.grownBy w3 (some B)∧(∀p∈K',p∈Ki∨d+1<p.2.2.2)∧InvP w0 K' (d+1)):=⟨hs3,hg3,hn3,hi3⟩;have q0:w3.cell? ⟨W.heap.size,0,none⟩=some (.map (some B)):=(World.cell?_of_block (a:=⟨W.heap.size,0,none⟩) (hg3.block W.heap.size hbl (by simp[hLB]))).trans l0;have q1:w3.cell? ⟨W.heap.size,1,none⟩=some (.map (some B2)):=(World.cell?_of_block (a:=⟨W.heap.size,1,none⟩) (hg3.block W.heap.size hbl (by simp[hLB]))).trans l1;have q2:w3.cell? ⟨b,off+6,none⟩=some (.slice (some ⟨ab,aoff,none⟩) m ac):=(World.cell?_of_block (a:=⟨b,off+6,none⟩) (hg3.block b hxlt (by simp[hbB]))).trans c6;clear hs3 hg3 hn3 hi3))
        all_goals go_wp2
        go_roundw
        case rel=>
         refine⟨j+1,K',by omega,by go_num,?_⟩
         obtain⟨h1,h2,h3,h4⟩:=H3.out
         have hg:=gr_two HL.out.gr h2
         refine⟨below_of_gr HW.out hg hB,hg,h1,h4,fun p hp=> ?_,?_,(h2.block _ hbl (by simp[hLB])).trans HL.out.box⟩
         ·rcases h3 p hp with h | h
          ·exact HL.out.new p h
          ·exact .inr h
         ·rw[List.take_succ_eq_append_getElem hja,List.all_append,HL.out.all,Bool.true_and,List.all_cons,HQ.out]
          rfl
        case measure=>simp[intOf];omega
       | false=>
        rw[hq] at hcall
        have HQ:Hid (a.all (Par.formD (12 - (d+1)))=false):=by
         show _=_
         rw[List.all_eq_false]
         exact⟨a[j],List.getElem_mem hja,by rw[hq];simp⟩
        have HC:Hid (Calls Tryz.prog 170 #[.agg #[.map (some B),.map (some B2)],.pointer (some ⟨ab,aoff+j*7,none⟩),.int .i64 ((d+1:Nat):Int)] wr.drew fun x W'=>∃K',x=.returned (.bool false)∧SetP W' B K'∧wr.drew.grownBy W' (some B)∧(∀p∈K',p∈Ki∨d+1<p.2.2.2)∧True):=hcall.mono fun x W' ⟨K',e1,e2,e3,e4,_⟩=>⟨K',e1,e2,e3,e4,trivial⟩
        clear hcall hq hxr ml
        go_wp2
        go_region_held3 (fun w'=>w'.cell? ⟨W.heap.size,0,none⟩=some (.map (some B))∧w'.cell? ⟨W.heap.size,1,none⟩=some (.map (some B2))∧w'.cell? ⟨b,off+6,none⟩=some (.slice (some ⟨ab,aoff,none⟩) m ac)) (go_keep)
         (first
           |(go_at_call 170;refine(HC.out).mono ?_;rintro x w3 ⟨K',rfl,hs3,hg3,hn3,hi3⟩;have H3:Hid (SetP w3 B K'∧wr.drew.grownBy w3 (some B)∧(∀p∈K',p∈Ki∨d+1<p.2.2.2)∧True):=⟨hs3,hg3,hn3,trivial⟩;have q0:w3.cell? ⟨W.heap.size,0,none⟩=some (.map (some B)):=(World.cell?_of_block (a:=⟨W.heap.size,0,none⟩) (hg3.block W.heap.size hbl (by simp[hLB]))).trans l0;have q1:w3.cell? ⟨W.heap.size,1,none⟩=some (.map (some B2)):=(World.cell?_of_block (a:=⟨W.heap.size,1,none⟩) (hg3.block W.heap.size hbl (by simp[hLB]))).trans l1;have q2:w3.cell? ⟨b,off+6,none⟩=some (.slice (some ⟨ab,aoff,none⟩) m ac):=(World.cell?_of_block (a:=⟨b,off+6,none⟩) (hg3.block b hxlt (by simp[hbB]))).trans c6;clear hs3 hg3 hn3 hi3))
        all_goals go_wp2
        go_ret
        obtain⟨h1,h2,h3,h4⟩:=H3.out
        refine⟨K',by rw[HFK2.out,HQ.out];rfl,h1,gr_two HL.out.gr h2,fun p hp=> ?_,fun h=>by rw[HFK2.out,HQ.out] at h;cases h⟩
        rcases h3 p hp with h | h
        ·rcases HL.out.new p h with h' | h'
         ·rcases mem_addP.1 h' with h' | rfl
          ·exact .inl h'
          ·exact .inr (Nat.lt_succ_self d)
         ·exact .inr (by omega)
        ·exact .inr (by omega)
      ·have HQ:Hid (a.all (Par.formD (12 - (d+1)))=true):=by
        have h:=HL.out.all
        rwa [List.take_of_length_le (by have:=HLN.out;omega)] at h
       clear ml
       go_wp2
       go_ret
       refine⟨Ki,by rw[HFK2.out,HQ.out];rfl,HL.out.set,HL.out.gr,fun p hp=> ?_,fun _=>inv_up HI.out HL.out.inv HL.out.new HTA.out rfl HQ.out⟩
       rcases HL.out.new p hp with h' | h'
       ·rcases mem_addP.1 h' with h' | rfl
        ·exact .inl h'
        ·exact .inr (Nat.lt_succ_self d)
       ·exact .inr (by omega)
theorem look_all {w0:World}{B B2:Nat}(hB:w0.heap.size≤B)(hlv:LevAt w0 w0.heap.size):∀m d,d+m=11→∀t,LkC w0 B B2 d t:=by
 intro m
 induction m with
 | zero=>intro d h t;exact look_step hB hlv (by omega) (fun h'=>by omega) t
 | succ m ih=>intro d h t;exact look_step hB hlv (by omega) (fun _=>ih (d+1) (by omega)) t
theorem placeCS (b off n c d:Nat)(w:World)(hn:0<n):
 Calls Tryz.prog 152 #[.slice (some ⟨b,off,none⟩) n c,.int .i64 (d:Int)] w fun x w'=>x=.returned (.agg #[.pointer (some ⟨b,off,none⟩),.int .i64 (n:Int),.int .i64 (d:Int)])∧Below w.heap.size w w':=by
 go_enter Tryz.func152,Tryz.ntmps152
 go_wp2
 exact bodyPost_ret (v:=.agg #[.pointer (some ⟨b,off,none⟩),.int .i64 (n:Int),.int .i64 (d:Int)]) (by simp[results,Tryz.results152,go_sem]) rfl ⟨rfl,(Below.refl _ _).alloc (Nat.le_refl _) _⟩
theorem metCS {w:World}{B:Nat}{K:List PK}(h:SetP w B K)(b off n c d:Nat)(hn:0<n)(hp:Pln w b):
 Calls Tryz.prog 117 #[.map (some B),.slice (some ⟨b,off,none⟩) n c,.int .i64 (d:Int)] w fun x w'=>x=.returned (.bool (decide ((b,off,n,d)∈K)))∧SetP w' B (addP K (b,off,n,d))∧w.grownBy w' (some B):=by
 have hpl:=placeCS b off n c d w hn
 have HS:Hid (SetP w B K):=h
 have HP:Hid (Pln w b):=hp
 clear h hp hn
 go_enter Tryz.func117,Tryz.ntmps117
 go_wp2_with fail
 refine hpl.mono ?_
 rintro x w1 ⟨rfl,hb1⟩
 obtain⟨w2,hw2⟩:∃w2,w2=w1.alloc (.cells #[.pointer (some ⟨b,off,none⟩),.int .i64 (n:Int),.int .i64 (d:Int)] 221):=⟨_,rfl⟩
 have hb2:Below w.heap.size w w2:=by rw[hw2];exact hb1.alloc hb1.size _
 have hz2:w2.heap.size=w1.heap.size+1:=by rw[hw2];simp
 have kp:∀W:World,Below w.heap.size w W→SetP W B K∧Pln W b:=fun W hW=>⟨HS.out.keeps (hW.block _ HS.out.lt) fun p hp=>hW.block _ (by obtain⟨cs,e,hh⟩:=HS.out.pl hp;exact lt_of_block hh),HP.out.keeps (hW.block _ (by obtain⟨cs,e,hh⟩:=HP.out;exact lt_of_block hh))⟩
 have hlk:=(kp w2 hb2).1.asksS (b,off,n,d) (kp w2 hb2).2
 have hb3:Below w.heap.size w (w2.alloc (.cells #[] 76)):=hb2.alloc hb2.size _
 obtain⟨w4,hup,hs4,hg4⟩:=(kp _ hb3).1.putS (b,off,n,d) (kp _ hb3).2
 have HE:Hid (SetP w4 B (addP K (b,off,n,d))∧w.grownBy w4 (some B)):=⟨hs4,⟨hg4.os.trans hb3.os,hg4.tape.trans hb3.tape,hg4.output.trans hb3.output,Nat.le_trans hb3.size hg4.size,fun k hk hn=>(hg4.block k (Nat.lt_of_lt_of_le hk hb3.size) hn).trans (hb3.block k hk)⟩⟩
 rw[hw2] at hlk hup
 unfold pkV at hlk hup
 clear hb1 hb2 hb3 kp hs4 hg4 hw2 hz2
 go_wp2
 go_ret
 exact⟨rfl,HE.out⟩
theorem newLS (w:World):Calls Tryz.prog 50 #[] w fun x w'=>x=.returned (.agg #[.map (some (w.heap.size+1)),.map (some (w.heap.size+2))])∧SetP w' (w.heap.size+1) []∧SetP w' (w.heap.size+2) []∧Below w.heap.size w w':=by
 have hmm:=@run_makeMap Tryz.prog
 go_enter Tryz.func50,Tryz.ntmps50
 go_wp2
 refine bodyPost_ret (v:=.agg #[.map (some (w.heap.size+1)),.map (some (w.heap.size+2))]) (by simp[results,Tryz.results50,go_sem]) rfl ⟨rfl,?_,?_,(((Below.refl _ _).alloc (Nat.le_refl _) _).alloc (by simp) _).alloc (by simp;omega) _⟩
 ·exact⟨⟨#[],0,heap_past_alloc (heap_at_alloc _ _ _ (by simp)),rfl⟩,fun p hp=>by simp at hp⟩
 ·exact⟨⟨#[],0,heap_at_alloc _ _ _ (by simp),rfl⟩,fun p hp=>by simp at hp⟩
namespace Par
mutual
def deepT:Tr→Nat
 | .mk _ _ _ _ _ _ a=>deepL a+1
def deepL:List Tr→Nat
 |[]=>0
 | x::r=>max (deepT x) (deepL r)
end
mutual
def formE:Tr→Bool
 | .mk k p n t s l a=>aloneF (.mk k p n t s l a) && formL a
def formL:List Tr→Bool
 |[]=>true
 | x::r=>formE x && formL r
end
theorem formL_all (a:List Tr):formL a=a.all formE:=by
 induction a with
 | nil=>rfl
 | cons x r ih=>simp[formL,ih]
end Par
section
namespace Lex
open Go
def Good (k:Int)(t:List UInt8):Prop:=t≠[]∧k≠0∧gapF false t=0∧∀r:List UInt8,(r=[]∨∃r',r=32::r')→firstF (t++r)=(k,t,0)
theorem run_take (p:Int→Bool)(l:List UInt8):runLen p (l.take (runLen p l))=runLen p l∧∀c∈l.take (runLen p l),p (c.toNat:Int)=true:=by
 induction l with
 | nil=>simp[runLen]
 | cons a r ih=>
  simp only[runLen]
  cases h:p (a.toNat:Int)
  ·simp[runLen]
  ·simp only[if_true,List.take_succ_cons,runLen,h,ih.1,true_and,List.mem_cons]
   rintro c (rfl | hc)
   ·exact h
   ·exact ih.2 c hc
theorem run_append (p:Int→Bool)(t r:List UInt8)(ht:∀c∈t,p (c.toNat:Int)=true)(hr:r=[]∨∃r',r=32::r')(h32:p 32=false):runLen p (t++r)=t.length:=by
 induction t with
 | nil=>
  rcases hr with rfl |⟨r',rfl⟩
  ·rfl
  ·simp[runLen,h32]
 | cons a t ih=>
  simp only[List.cons_append,runLen,ht a (by simp),if_true,List.length_cons]
  rw[ih (fun c hc=>ht c (by simp[hc]))]
theorem c0_append {t:List UInt8}(h:t≠[])(r:List UInt8):c0 (t++r)=c0 t:=by
 match t,h with
 | a::t,_=>rfl
theorem c0_take {l:List UInt8}{n:Nat}(h:0<n):c0 (l.take n)=c0 l:=by
 match l,n,h with
 |[],_,_=>simp
 | a::l,n+1,_=>rfl
theorem gap_zero {t:List UInt8}(hb:blankB (c0 t)=false)(hh:(c0 t==35)=false):gapF false t=0:=by
 match t with
 |[]=>rfl
 | a::t=>
  have hb':blankB ((a.toNat:Nat):Int)=false:=hb
  have hh':(((a.toNat:Nat):Int)==35)=false:=hh
  simp only[gapF,hb',hh']
  rfl
theorem alpha_gap {c:Int}(h:alphaB c=true):blankB c=false∧(c==35)=false:=by
 simp[alphaB] at h;simp[blankB];omega
theorem digit_gap {c:Int}(h:digitB c=true):blankB c=false∧(c==35)=false:=by
 simp[digitB] at h;simp[blankB];omega
theorem one_gap {c:Int}(h:oneB c=true):blankB c=false∧(c==35)=false∧alphaB c=false∧digitB c=false:=by
 simp[oneB] at h;simp[blankB,alphaB,digitB];omega
theorem two_gap {t:List UInt8}(h:twoB t=true):blankB (c0 t)=false∧(c0 t==35)=false∧alphaB (c0 t)=false∧digitB (c0 t)=false∧t.length=2∧t≠[]:=by
 simp only[twoB,Bool.or_eq_true,beq_iff_eq] at h
 rcases h with((((h | h)| h)| h)| h)| h<;>subst h<;>decide
theorem alpha_good {l:List UInt8}(h0:l≠[])(ha:alphaB (c0 l)=true){k:Int}(h:lettersF (l.take (runLen nameB l))=(k,l.take (runLen nameB l),0)):Good k (l.take (runLen nameB l)):=by
 have hp:=run_pos' nameB l (by simp[nameB,ha]) h0
 have hl:=runLen_le nameB l
 have hne:l.take (runLen nameB l)≠[]:=by
  intro e;have:=congrArg List.length e;rw[List.length_take,Nat.min_eq_left hl,List.length_nil] at this;omega
 have hc:c0 (l.take (runLen nameB l))=c0 l:=c0_take hp
 have hg:=alpha_gap ha
 refine⟨hne,(letters_ok h).1,gap_zero (by rw[hc];exact hg.1) (by rw[hc];exact hg.2),fun r hr=> ?_⟩
 rw[first_alpha (by rw[c0_append hne,hc];exact ha),run_append nameB _ r (run_take nameB l).2 hr (by decide)]
 simp[h]
theorem digit_good {l:List UInt8}(h0:l≠[])(ha:alphaB (c0 l)=false)(hd:digitB (c0 l)=true){k:Int}(h:digitsF (l.take (runLen digitB l))=(k,l.take (runLen digitB l),0)):Good k (l.take (runLen digitB l)):=by
 have hp:=run_pos' digitB l hd h0
 have hl:=runLen_le digitB l
 have hne:l.take (runLen digitB l)≠[]:=by
  intro e;have:=congrArg List.length e;rw[List.length_take,Nat.min_eq_left hl,List.length_nil] at this;omega
 have hc:c0 (l.take (runLen digitB l))=c0 l:=c0_take hp
 have hg:=digit_gap hd
 refine⟨hne,(digits_ok h).1,gap_zero (by rw[hc];exact hg.1) (by rw[hc];exact hg.2),fun r hr=> ?_⟩
 rw[first_digit (by rw[c0_append hne,hc];exact ha) (by rw[c0_append hne,hc];exact hd),run_append digitB _ r (run_take digitB l).2 hr (by decide)]
 simp[h]
theorem two_good {t:List UInt8}(h:twoB t=true):Good 4 t:=by
 obtain⟨h1,h2,h3,h4,h5,h6⟩:=two_gap h
 refine⟨h6,by decide,gap_zero h1 h2,fun r _=> ?_⟩
 have e:(t++r).take 2=t:=by rw[List.take_append_of_le_length (by omega),List.take_of_length_le (by omega)]
 have hs:signF (t++r)=t:=by unfold signF;rw[e,if_pos h]
 rw[first_sign (by rw[c0_append h6];exact h3) (by rw[c0_append h6];exact h4) (by rw[hs];exact h6),hs]
theorem one_good {a:UInt8}(h:oneB ((a.toNat:Nat):Int)=true):Good 4 [a]:=by
 obtain⟨h1,h2,h3,h4⟩:=one_gap h
 refine⟨by simp,by decide,gap_zero h1 h2,fun r hr=> ?_⟩
 have ht:twoB (([a]++r).take 2)=false:=by
  rcases hr with rfl |⟨r',rfl⟩
  ·simp[twoB]
  ·simp[twoB]
 have hs:signF ([a]++r)=[a]:=by
  unfold signF
  rw[ht,if_neg (by simp),if_pos (show oneB (c0 ([a]++r))=true from h)]
  rfl
 rw[first_sign (by rw[c0_append (by simp)];exact h3) (by rw[c0_append (by simp)];exact h4) (by rw[hs];simp),hs]
theorem first_good {l t:List UInt8}{k:Int}(h:firstF l=(k,t,0))(h0:l≠[]):Good k t:=by
 cases ha:alphaB (c0 l)
 ·cases hd:digitB (c0 l)
  ·by_cases hs:signF l=[]
   ·rw[first_none ha hd hs] at h;simp at h
   ·rw[first_sign ha hd hs] at h
    simp only[Prod.mk.injEq,and_true] at h
    obtain⟨rfl,rfl⟩:=h
    by_cases h2:twoB (l.take 2)=true
    ·have e:signF l=l.take 2:=by unfold signF;rw[if_pos h2]
     rw[e];exact two_good h2
    ·by_cases h1:oneB (c0 l)=true
     ·match l,h0 with
      | a::l',_=>
       have e:signF (a::l')=[a]:=by unfold signF;rw[if_neg h2,if_pos h1];rfl
       rw[e];exact one_good h1
     ·exact absurd (by unfold signF;rw[if_neg h2,if_neg h1]) hs
  ·rw[first_digit ha hd] at h
   have:=(digits_ok h).2
   subst this
   exact digit_good h0 ha hd h
 ·rw[first_alpha ha] at h
  have:=(letters_ok h).2
  subst this
  exact alpha_good h0 ha h
def From (l:List UInt8)(t:Tok):Prop:=t.2.1≤l.length∧t.2.2=(l.drop t.2.1).take t.2.2.length∧Good t.1 t.2.2∧t.2.2.length≤l.length
theorem scan_from (l:List UInt8):∀(f p:Nat) (acc out:List Tok) (q:Nat),p≤l.length→scanF l f p acc=(out,0,q)→acc.length≤600→(∀t∈acc,From l t)→(∀t∈out,From l t)∧out.length≤600:=by
 intro f
 induction f with
 | zero=>intro p acc out q _ h _ _;simp[scanF] at h;obtain⟨rfl,_⟩:=h;simp
 | succ f ih=>
  intro p acc out q hp h hl ha
  have hq:=gap_end_le l p hp
  by_cases he:p+gapF false (l.drop p)=l.length
  ·rw[scan_end (step_end rfl he)] at h
   simp only[Prod.mk.injEq] at h
   obtain⟨rfl,_⟩:=h
   exact⟨ha,hl⟩
  ·have hne:l.drop (p+gapF false (l.drop p))≠[]:=by
    intro e;have:=congrArg List.length e;simp at this;omega
   obtain⟨k,t,c,hf⟩:∃k t c,firstF (l.drop (p+gapF false (l.drop p)))=(k,t,c):=⟨_,_,_,rfl⟩
   by_cases hc:c=0
   ·subst hc
    have hst:=step_tok rfl he hf
    have hok:=first_ok hf hne
    by_cases h6:acc.length=600
    ·rw[scan_full hst hok.1 h6] at h;simp at h
    ·rw[scan_on hst hok.1 h6] at h
     have h4:=hok.2.2.2
     rw[List.length_drop] at h4
     refine ih _ _ _ _ (by omega) h (by simp;omega) ?_
     intro x hx
     rcases List.mem_append.1 hx with hx | hx
     ·exact ha x hx
     ·simp at hx;subst hx
      exact⟨hq,hok.2.2.1,first_good hf hne,by show t.length≤_;omega⟩
   ·rw[scan_bad (step_bad rfl he hf hc) hc] at h
    simp only[Prod.mk.injEq] at h
    exact absurd h.2.1 hc
theorem all_from {l:List UInt8}{out:List Tok}{q:Nat}(h:scanAll l=(out,0,q)):(∀t∈out,From l t)∧out.length≤600∧l.length≤4000:=by
 by_cases hb:4000<l.length
 ·rw[scan_many hb] at h;simp at h
 ·rw[scan_begin hb] at h
  have:=scan_from l _ 0 [] out q (by omega) h (by simp) (by simp)
  exact⟨this.1,this.2,by omega⟩
end Lex
end
section
namespace Par
open Lex (digitB firstF c0 runLen nameB alphaB)
theorem digits_dec {l:List UInt8}(h:∀c∈l,digitB (c.toNat:Int)=true):∀acc,∃m,Lib.decFrom acc l=some m:=by
 induction l with
 | nil=>intro acc;exact⟨acc,rfl⟩
 | cons a r ih=>
  intro acc
  have ha:=h a (by simp)
  simp only[digitB,decide_eq_true_eq] at ha
  have hd:Lib.digitVal a=some (a.toNat - 48):=by
   unfold Lib.digitVal
   rw[if_pos (by omega)]
  obtain⟨m,hm⟩:=ih (fun c hc=>h c (by simp[hc])) (acc*10+(a.toNat - 48))
  exact⟨m,by simp only[Lib.decFrom,hd];exact hm⟩
theorem digits_atoi {l:List UInt8}(h0:l≠[])(h:∀c∈l,digitB (c.toNat:Int)=true)(hl:l.length≤9):∃m:Nat,Lib.atoi l=some (m:Int)∧m≤999999999:=by
 obtain⟨m,hm⟩:=digits_dec h 0
 have hlt:=Lib.decFrom_lt l 0 m hm
 have hp:(10:Nat) ^ l.length≤10 ^ 9:=Nat.pow_le_pow_right (by omega) hl
 refine⟨m,?_,by omega⟩
 cases l with
 | nil=>exact absurd rfl h0
 | cons a r=>
  have ha:=h a (by simp)
  simp only[digitB,decide_eq_true_eq] at ha
  have e1:(a==45)=false:=by
   rw[beq_eq_false_iff_ne]
   intro e;subst e
   exact absurd ha (by decide)
  have e2:(a==43)=false:=by
   rw[beq_eq_false_iff_ne]
   intro e;subst e
   exact absurd ha (by decide)
  simp only[Lib.atoi,e1,e2,Bool.false_eq_true,if_false,Lib.decNat,List.isEmpty_cons,hm,Option.map_some]
theorem num_tok {t:List UInt8}(h:Lex.Good 2 t):t.length≤9∧∃m:Nat,Lib.atoi t=some (m:Int)∧m≤999999999:=by
 obtain⟨h0,_,_,h3⟩:=h
 have h4:=h3 [] (.inl rfl)
 rw[List.append_nil] at h4
 unfold firstF at h4
 split at h4
 ·rename_i ha
  unfold Lex.lettersF at h4
  split at h4
  ·simp at h4
  ·split at h4<;>simp at h4
 ·split at h4
  ·rename_i _ hd
   obtain⟨g1,g2⟩:=Lex.run_take digitB t
   have hlt:=Lex.digits_ok h4
   have e:t.take (runLen digitB t)=t:=hlt.2.symm
   rw[e] at g2 h4
   unfold Lex.digitsF at h4
   split at h4
   ·simp at h4
   ·rename_i hh
    exact⟨by omega,digits_atoi h0 g2 (by omega)⟩
  ·split at h4<;>simp at h4
end Par
end
end Go.Proofs.YtepkhlpjgnckkaaGreatDoor
