/- tree.Check's looker at a list of statements. And more of the same. -/
import Derived.Test.YtepkhlpjgnckkaaGreatDoorZB5
import Derived.OrdersHeld
namespace Go.Proofs.YtepkhlpjgnckkaaGreatDoor
set_option maxRecDepth 100000
set_option maxHeartbeats 8000000
open Go.RowKit
open Par (Tok Po Tr nx atP isT ba Res Stm Prm Chn Prc Prg)
def LbC (w0:World)(B B2 d:Nat)(a:List Stm):Prop:=∀(W:World) (ao:Option Addr) (c:Nat) (K K2:List PK),Below w0.heap.size w0 W→SetP W B K→SetP W B2 K2→InvP w0 K 0→InvS w0 K2 d→RwV StIs w0 (fun b=>b<w0.heap.size) 15 (.slice ao a.length c) a→(∀x∈a,Par.StX (12 - d) x)→a.length≤20→
 Calls Tryz.prog 82 #[.agg #[.map (some B),.map (some B2)],.slice ao a.length c,.int .i64 (d:Int)] W fun x W'=>∃K' K2',x=.returned (.bool (dB (∀x∈a,DpS x)))∧SetP W' B K'∧SetP W' B2 K2'∧Gr2 B B2 W W'∧(∀p∈K2',p∈K2∨d≤p.2.2.2)∧((∀x∈a,DpS x)→InvP w0 K' 0∧InvS w0 K2' d)
def LtmP (w0:World)(B B2 d:Nat)(t:Stm)(W:World)(K2:List PK)(x:Ending)(W':World):Prop:=∃K' K2',x=.returned (.bool (dB (DpS t)))∧SetP W' B K'∧SetP W' B2 K2'∧Gr2 B B2 W W'∧(∀p∈K2',p∈K2∨d+1≤p.2.2.2)∧(DpS t→InvP w0 K' 0∧InvS w0 K2' (d+1))
def LsC (w0:World)(B B2 d:Nat)(t:Stm):Prop:=∀(W:World) (b off:Nat) (cs:List Value) (K K2:List PK),Below w0.heap.size w0 W→SetP W B K→SetP W B2 K2→InvP w0 K 0→InvS w0 K2 (d+1)→ExAt w0 b off cs→StIs w0 (fun b=>b<w0.heap.size) t cs→Par.StX (12 - d) t→
 Calls Tryz.prog 118 #[.agg #[.map (some B),.map (some B2)],.pointer (some ⟨b,off,none⟩),.int .i64 (d:Int)] W (LtmP w0 B B2 d t W K2)
theorem set_low {W W1:World}{B:Nat}{K:List PK}(h:SetP W B K)(h1:Below W.heap.size W W1):SetP W1 B K:=h.keeps (h1.block _ h.lt) fun p hp=>h1.block _ (by obtain⟨cs,e,hh⟩:=h.pl hp;exact lt_of_block hh)
theorem set_other {W W1:World}{B B2:Nat}{K K2:List PK}(h:SetP W B K)(h2:SetP W B2 K2)(hne:B2≠B)(hg:W.grownBy W1 (some B)):SetP W1 B2 K2:=h2.keeps (hg.block _ h2.lt (by simp;exact hne)) fun p hp=>by
 obtain⟨cs,e,hh⟩:=h2.pl hp
 refine hg.block _ (lt_of_block hh) fun hq=> ?_
 obtain⟨es,ck,hb,_⟩:=h.ex
 cases hq
 rw[hb] at hh
 cases hh
theorem lb_nil {w0:World}{B B2 d:Nat}:LbC w0 B B2 d []:=by
 intro W ao c K K2 hW hS hS2 hI hI2 hR hX h20
 have HALL:Hid (dB (∀x∈([]:List Stm),DpS x)=true):=dB_true fun x hx=>by cases hx
 obtain⟨W0,hW0⟩:∃W0,W0=W.alloc (.cells #[.map (some B),.map (some B2)] 124):=⟨_,rfl⟩
 have hb0:Below W.heap.size W W0:=by rw[hW0];exact(Below.refl _ _).alloc (Nat.le_refl _) _
 have HE:Hid (SetP W0 B K∧SetP W0 B2 K2∧Gr2 B B2 W W0∧InvP w0 K 0∧InvS w0 K2 d):=⟨set_low hS hb0,set_low hS2 hb0,Gr2.of_below hb0,hI,hI2⟩
 rw[HALL.out]
 simp only[List.length_nil]
 clear hW hS hS2 hI hI2 hR hX h20 hb0
 go_enter Tryz.func82,Tryz.ntmps82
 go_wp2
 rw[←hW0]
 go_ret
 exact⟨K,K2,rfl,HE.out.1,HE.out.2.1,HE.out.2.2.1,fun p hp=>.inl hp,fun _=>HE.out.2.2.2⟩
structure LtbS (w0 W wr:World)(B B2 d:Nat)(K1 Ki K2i:List PK)(a:List Stm)(j:Nat):Prop where
 bel:Below w0.heap.size w0 wr
 gr:Gr2 B B2 W wr
 s1:SetP wr B Ki
 s2:SetP wr B2 K2i
 i1:InvP w0 Ki 0
 i2:InvS w0 K2i (d+1)
 new:∀p∈K2i,p∈K1∨d+1≤p.2.2.2
 all:∀x∈a.take j,DpS x
 box:wr.heap[W.heap.size]? =some (.cells #[.map (some B),.map (some B2)] 124 (0,0))
theorem take_more {a:List Stm}{j:Nat}(hj:j<a.length)(h:∀x∈a.take j,DpS x)(h1:DpS a[j]):∀x∈a.take (j+1),DpS x:=by
 intro x hx
 rw[List.take_succ_eq_append_getElem hj,List.mem_append] at hx
 rcases hx with hx | hx
 ·exact h x hx
 ·rw[List.mem_singleton.1 hx];exact h1
theorem lb_step {w0:World}{B B2 d:Nat}(hB:w0.heap.size≤B)(hB2:w0.heap.size≤B2)(hne:B2≠B)(hst:∀t,LsC w0 B B2 d t)(a:List Stm):LbC w0 B B2 d a:=by
 by_cases ha:a=[]
 ·rw[ha];exact lb_nil
 intro W ao c K K2 hW hS hS2 hI hI2 hR hX h20
 have hn0:0<a.length:=by cases a with | nil=>exact absurd rfl ha | cons x r=>simp
 obtain⟨css,hr,hcl,hk⟩:=hR
 obtain⟨ao',ab,aoff,c',hv,hra⟩:=hr
 have hcn:css.length=a.length:=hcl
 rw[hcn] at hv
 simp only[Value.slice.injEq] at hv
 obtain⟨rfl,_,rfl⟩:=hv
 have had:=hra.adr (by omega)
 subst had
 have hSA:StsAt w0 ab aoff a.length a:=⟨rfl,c,css,by rw[←hcn];exact hra,hcl,hk⟩
 obtain⟨cs1,e1,hpl⟩:=hra.pl (by omega)
 have hPl:Pln w0 ab:=⟨cs1,e1,hpl⟩
 have habl:ab<w0.heap.size:=lt_of_block hpl
 obtain⟨n,hn⟩:∃n,n=a.length:=⟨_,rfl⟩
 have hmx:n≤20:=by omega
 rw[←hn] at hn0⊢
 obtain⟨W0,hW0⟩:∃W0,W0=W.alloc (.cells #[.map (some B),.map (some B2)] 124):=⟨_,rfl⟩
 have hb0:Below W.heap.size W W0:=by rw[hW0];exact(Below.refl _ _).alloc (Nat.le_refl _) _
 have hk0:W0.heap[W.heap.size]? =some (.cells #[.map (some B),.map (some B2)] 124 (0,0)):=by rw[hW0];exact heap_at_alloc _ _ _ rfl
 have hW00:Below w0.heap.size w0 W0:=hW.trans (hb0.mono hW.size)
 have hS0:=set_low hS hb0
 have hS20:=set_low hS2 hb0
 have hmt:=metCS hS20 ab aoff n c d hn0 (hPl.keeps (hW00.block _ habl))
 have HKEY:Hid (∀p,p=(ab,aoff,n,d)→StsAt w0 p.1 p.2.1 p.2.2.1 a):=by rintro p rfl;show StsAt w0 ab aoff n a;rw[hn];exact hSA
 have HL0:Hid (SetP W0 B K∧SetP W0 B2 K2∧Below w0.heap.size w0 W0∧Gr2 B B2 W W0):=⟨hS0,hS20,hW00,Gr2.of_below hb0⟩
 have HI:Hid (InvP w0 K 0∧InvS w0 K2 d):=⟨hI,hI2⟩
 have HX:Hid (∀x∈a,Par.StX (12 - d) x):=hX
 have HST:Hid (∀t,LsC w0 B B2 d t):=hst
 have HROW:Hid (∀j (h:j<css.length),ExAt w0 ab (aoff+j*15) css[j]):=fun j hj=>⟨habl,fun i u hu=>hra.cell j hj i u hu⟩
 have HKID:Hid (∀i (h:i<a.length) (h':i<css.length),StIs w0 (fun b=>b<w0.heap.size) a[i] css[i]):=hk
 have HN:Hid (n=a.length∧css.length=a.length):=⟨hn,hcl⟩
 have HK0:Hid (W0.heap[W.heap.size]? =some (.cells #[.map (some B),.map (some B2)] 124 (0,0))):=hk0
 have hlB:=hS.lt
 have hlB2:=hS2.lt
 have m0:((n:Int)==0)=false:=by simp;omega
 have d20:decide ((20:Int)<(n:Int))=false:=by simp;omega
 have habW:ab<W.heap.size:=Nat.lt_of_lt_of_le habl hW.size
 have HAB:Hid (ab<w0.heap.size):=habl
 by_cases hmem:(ab,aoff,n,d)∈K2
 ·rw[decide_eq_true hmem] at hmt
  have HAL:Hid (∀x∈a,DpS x):=hI2 _ hmem (Nat.le_refl _) a (HKEY.out _ rfl)
  rw[show addP K2 (ab,aoff,n,d)=K2 by simp[addP,hmem]] at hmt
  have hdB:=dB_true HAL.out
  rw[hdB]
  clear hn ha hra hSA hpl hPl hk hcl hcn hS hS2 hI hI2 hX hst hb0 hk0 hW00 hS0 hS20 hW hmem hdB h20
  go_enter Tryz.func82,Tryz.ntmps82
  go_wp2_with fail
  rw[←hW0]
  clear hW0
  refine hmt.mono ?_
  rintro x W1 ⟨rfl,hs1,hg1⟩
  have H1:Hid (SetP W1 B2 K2∧W0.grownBy W1 (some B2)):=⟨hs1,hg1⟩
  clear hs1 hg1 hmt
  go_wp2
  go_ret
  exact⟨K,K2,rfl,set_other HL0.out.2.1 HL0.out.1 (Ne.symm hne) H1.out.2,H1.out.1,HL0.out.2.2.2.trans (Gr2.of_two H1.out.2),fun p hp=>.inl hp,fun _=>HI.out⟩
 ·rw[decide_eq_false hmem] at hmt
  obtain⟨K1,hK1⟩:∃K1,K1=addP K2 (ab,aoff,n,d):=⟨_,rfl⟩
  rw[←hK1] at hmt
  have HADD:Hid (InvS w0 K1 (d+1)):=by rw[hK1];exact invS_add hI2 rfl
  have HK1:Hid (K1=addP K2 (ab,aoff,n,d)):=hK1
  clear hn ha hra hSA hpl hPl hk hcl hcn hS hS2 hI hI2 hX hst hb0 hk0 hW00 hS0 hS20 hW hmem h20 hK1
  go_enter Tryz.func82,Tryz.ntmps82
  go_wp2_with fail
  rw[←hW0]
  clear hW0
  refine hmt.mono ?_
  rintro x W1 ⟨rfl,hs1,hg1⟩
  have HS1:Hid (LtbS w0 W W1 B B2 d K1 K K1 a 0):=by
   refine⟨(Gr2.of_two (B:=B) hg1).below HL0.out.2.2.1 hB hB2 |>fun h=>h,HL0.out.2.2.2.trans (Gr2.of_two hg1),set_other HL0.out.2.1 HL0.out.1 (Ne.symm hne) hg1,hs1,HI.out.1,HADD.out,fun p hp=>.inl hp,by simp,(hg1.block _ (lt_of_block HK0.out) (by simp;omega)).trans HK0.out⟩
  clear hs1 hg1 hmt
  go_wp2
  go_loopw [23] (fun i wr=>∃(j:Nat) (Ki K2i:List PK),j≤n∧i=.int .i64 j∧Hid (LtbS w0 W wr B B2 d K1 Ki K2i a j)) (fun i _=>n - (intOf i).toNat)
  case atStart=>exact⟨0,_,_,Nat.zero_le _,rfl,HS1⟩
  case round=>
   obtain⟨j,Ki,K2i,hj,rfl,HL⟩:=hrel
   by_cases hlt:j<n
   ·have hja:j<a.length:=by have:=HN.out.1;omega
    have hjc:j<css.length:=by have:=HN.out.2;omega
    obtain⟨l0,l1⟩:=blkL HL.out.box
    have hbl:=lt_of_block HL.out.box
    have hcall:=HST.out a[j] wr.drew ab (aoff+j*15) css[j] Ki K2i (below_dn HL.out.bel 1) (HL.out.s1.keeps rfl fun _ _=>rfl) (HL.out.s2.keeps rfl fun _ _=>rfl) HL.out.i1 HL.out.i2 (HROW.out j hjc) (HKID.out j hja hjc) (HX.out _ (List.getElem_mem hja))
    unfold LtmP at hcall
    by_cases hq:DpS a[j]
    ·have HQ:Hid (DpS a[j]):=hq
     rw[dB_true hq] at hcall
     have HC:Hid (Calls Tryz.prog 118 #[.agg #[.map (some B),.map (some B2)],.pointer (some ⟨ab,aoff+j*15,none⟩),.int .i64 (d:Int)] wr.drew fun x W'=>∃K' K2',x=.returned (.bool true)∧SetP W' B K'∧SetP W' B2 K2'∧Gr2 B B2 wr.drew W'∧(∀p∈K2',p∈K2i∨d+1≤p.2.2.2)∧InvP w0 K' 0∧InvS w0 K2' (d+1)):=hcall.mono fun x W' ⟨K',K2',e1,e2,e3,e4,e5,e6⟩=>⟨K',K2',e1,e2,e3,e4,e5,e6 hq⟩
     clear hcall hq
     go_wp2
     go_region_held3 (fun w'=>w'.cell? ⟨W.heap.size,0,none⟩=some (.map (some B))∧w'.cell? ⟨W.heap.size,1,none⟩=some (.map (some B2))) (go_keep)
      (first
        |(go_at_call 118;refine(HC.out).mono ?_;rintro x w3 ⟨K',K2',rfl,g1,g2,g3,g4,g5,g6⟩;have H3:Hid (SetP w3 B K'∧SetP w3 B2 K2'∧Gr2 B B2 wr.drew w3∧(∀p∈K2',p∈K2i∨d+1≤p.2.2.2)∧InvP w0 K' 0∧InvS w0 K2' (d+1)):=⟨g1,g2,g3,g4,g5,g6⟩;have q0:w3.cell? ⟨W.heap.size,0,none⟩=some (.map (some B)):=(World.cell?_of_block (a:=⟨W.heap.size,0,none⟩) (g3.block W.heap.size hbl (by omega) (by omega))).trans l0;have q1:w3.cell? ⟨W.heap.size,1,none⟩=some (.map (some B2)):=(World.cell?_of_block (a:=⟨W.heap.size,1,none⟩) (g3.block W.heap.size hbl (by omega) (by omega))).trans l1;clear g1 g2 g3 g4 g5 g6))
     all_goals go_wp2
     go_roundw
     case rel=>
      refine⟨j+1,K',K2',by omega,by go_num,?_⟩
      obtain⟨g1,g2,g3,g4,g5,g6⟩:=H3.out
      have g3':=HL.out.gr.trans (Gr2.undrew (n:=1) g3)
      refine⟨(Gr2.undrew (n:=1) g3).below HL.out.bel hB hB2,g3',g1,g2,g5,g6,fun p hp=> ?_,take_more hja HL.out.all HQ.out,(g3.block _ hbl (by omega) (by omega)).trans HL.out.box⟩
      rcases g4 p hp with h | h
      ·exact HL.out.new p h
      ·exact .inr h
     case measure=>simp[intOf];omega
    ·have HQ:Hid (¬∀x∈a,DpS x):=fun h=>hq (h _ (List.getElem_mem hja))
     rw[dB_false hq] at hcall
     have HC:Hid (Calls Tryz.prog 118 #[.agg #[.map (some B),.map (some B2)],.pointer (some ⟨ab,aoff+j*15,none⟩),.int .i64 (d:Int)] wr.drew fun x W'=>∃K' K2',x=.returned (.bool false)∧SetP W' B K'∧SetP W' B2 K2'∧Gr2 B B2 wr.drew W'∧(∀p∈K2',p∈K2i∨d+1≤p.2.2.2)):=hcall.mono fun x W' ⟨K',K2',e1,e2,e3,e4,e5,_⟩=>⟨K',K2',e1,e2,e3,e4,e5⟩
     clear hcall hq
     go_wp2
     go_region_held3 (fun w'=>w'.cell? ⟨W.heap.size,0,none⟩=some (.map (some B))∧w'.cell? ⟨W.heap.size,1,none⟩=some (.map (some B2))) (go_keep)
      (first
        |(go_at_call 118;refine(HC.out).mono ?_;rintro x w3 ⟨K',K2',rfl,g1,g2,g3,g4⟩;have H3:Hid (SetP w3 B K'∧SetP w3 B2 K2'∧Gr2 B B2 wr.drew w3∧(∀p∈K2',p∈K2i∨d+1≤p.2.2.2)):=⟨g1,g2,g3,g4⟩;have q0:w3.cell? ⟨W.heap.size,0,none⟩=some (.map (some B)):=(World.cell?_of_block (a:=⟨W.heap.size,0,none⟩) (g3.block W.heap.size hbl (by omega) (by omega))).trans l0;have q1:w3.cell? ⟨W.heap.size,1,none⟩=some (.map (some B2)):=(World.cell?_of_block (a:=⟨W.heap.size,1,none⟩) (g3.block W.heap.size hbl (by omega) (by omega))).trans l1;clear g1 g2 g3 g4))
     all_goals go_wp2
     go_ret
     obtain⟨g1,g2,g3,g4⟩:=H3.out
     refine⟨K',K2',congrArg (fun b=>Ending.returned (Value.bool b)) (dB_false HQ.out).symm,g1,g2,HL.out.gr.trans (Gr2.undrew (n:=1) g3),fun p hp=> ?_,fun h=>absurd h HQ.out⟩
     rcases g4 p hp with h | h
     ·rcases HL.out.new p h with h' | h'
      ·rw[HK1.out] at h'
       rcases mem_addP.1 h' with h' | rfl
       ·exact .inl h'
       ·exact .inr (Nat.le_refl _)
      ·exact .inr (by omega)
     ·exact .inr (by omega)
   ·have HQ:Hid (∀x∈a,DpS x):=by
     have h:=HL.out.all
     rwa [List.take_of_length_le (by have:=HN.out.1;omega)] at h
    go_wp2
    go_ret
    refine⟨Ki,K2i,congrArg (fun b=>Ending.returned (Value.bool b)) (dB_true HQ.out).symm,HL.out.s1,HL.out.s2,HL.out.gr,fun p hp=> ?_,fun _=>⟨HL.out.i1,invS_up HI.out.2 HL.out.i2 (by rw[←HK1.out];exact HL.out.new) (HKEY.out _ rfl) HQ.out⟩⟩
    rcases HL.out.new p hp with h' | h'
    ·rw[HK1.out] at h'
     rcases mem_addP.1 h' with h' | rfl
     ·exact .inl h'
     ·exact .inr (Nat.le_refl _)
    ·exact .inr (by omega)
section
variable {P:Program} {ops:Array Oper} {Q:Exit→Act→World→Prop} {md:Region.Mode} {S:Nat→World→Prop}
def anyK (P:Program)(md:Region.Mode)(ops:Array Oper)(Q:Exit→Act→World→Prop)(S:Nat→World→Prop):Nat→Array Bool→Act→World→Prop
 | 0,ls,a,w=>Region.ready md ops ls=[]∧Q .normal a w
 | n+1,ls,a,w=>(Region.ready md ops ls=[]→Q .normal a w)∧∀j∈Region.ready md ops ls,wpOp P ops Q j (fun a' w'=>S j w'∧anyK P md ops Q S n (ls.setIfInBounds j true) a' w') a w
theorem any_of_anyK:∀(n:Nat) (ls:Array Bool) (a:Act) (w:World),anyK P md ops Q S n ls a w→wpAny P md ops Q n ls a w:=by
 intro n
 induction n with
 | zero=>exact fun _ _ _ h=>h
 | succ n ih=>exact fun ls a w h=>⟨h.1,fun j hj=>wpOp_mono (fun a' w' h'=>ih _ a' w' h'.2) (h.2 j hj)⟩
theorem region_anyK {id:Nat}{a:Act}{w:World}(hm:P.follows .mixedOrders=true)(h:anyK P .any ops Q S ops.size (Array.replicate ops.size false) a {w with drawn:=w.drawn+1}):(Code.region id ops true).wp P Q a w:=
 wp_region_any hm (any_of_anyK _ _ _ _ h)
def Frank (md:Region.Mode)(i:Nat)(o:Oper):Prop:=∀e∈o.after,Region.binds md e=true→e.on≠i
theorem anyK_first {T:World→Prop}{i:Nat}{oi:Oper}{v:Value}(hi:ops[i]? =some oi)(hsel:∀(j:Nat) (o:Oper) cs b,ops[j]? =some o→o.op≠ .select cs b)
 (hQ:∀c a w,Q (.panic c) (a.put oi.dst v) w→Q (.panic c) a w) (hT:∀j oj,ops[j]? =some oj→j≠i→Frank md i oj→∀w,S j w→T w) (hSi:∀w,T w→S i w):
 ∀(n:Nat) (ls:Array Bool) (a:Act) (w:World),(∀j oj,ops[j]? =some oj→j≠i→ls.getD j true=false→Frank md i oj→oi.apart ops oj=true)→
  i∈Region.ready md ops ls→YieldsIf P ops T oi v a→T w→anyK P md ops Q S n (ls.setIfInBounds i true) (a.put oi.dst v) w→anyK P md ops Q S (n+1) ls a w:=by
 intro n
 induction n with
 | zero=>
  intro ls a w _ hr hy ht H
  refine⟨fun h=> ?_,fun j hj=> ?_⟩
  ·rw[h] at hr
   cases hr
  ·by_cases hji:j=i
   ·rw[hji]
    exact hy.wpOp hi ht ⟨hSi w ht,H⟩
   ·have h0:=ready_mono hj hji
    rw[H.1] at h0
    cases h0
 | succ n ih=>
  intro ls a w hfr hr hy ht H
  refine⟨fun h=> ?_,fun j hj=> ?_⟩
  ·rw[h] at hr
   cases hr
  ·by_cases hji:j=i
   ·rw[hji]
    exact hy.wpOp hi ht ⟨hSi w ht,H⟩
   ·obtain⟨hun,oj,hoj,hall⟩:=mem_ready.1 hj
    have hfj:Frank md i oj:=by
     intro e he hb hq
     have g1:=hall e he hb
     have g0:=(mem_ready.1 hr).1
     rw[hq] at g1
     by_cases hlt:i<ls.size
     ·simp[hlt] at g0 g1
      rw[g0] at g1
      cases g1
     ·simp[Array.getElem?_eq_none (Nat.le_of_not_lt hlt)] at g1
    have step:=wpOp_putIf hoj (hfr j oj hoj hji hun hfj) (fun cs b=>hsel i oi cs b hi) (fun cs b=>hsel j oj cs b hoj) hQ hy (H.2 j (ready_mono hj hji))
    refine wpOp_mono (fun a' w' g=>⟨g.2.1,ih (ls.setIfInBounds j true) a' w' (fun k ok hk hki hunk hfk=> ?_) (ready_mono hr (Ne.symm hji)) g.1 (hT j oj hoj hji hfj w' g.2.1) ?_⟩) step
    ·refine hfr k ok hk hki ?_ hfk
     by_cases hjk:j=k
     ·rw[←hjk]
      exact hun
     ·rw[getD_set_ne true hjk] at hunk
      exact hunk
    ·rw[Array.setIfInBounds_comm _ _ hji]
     exact g.2.2
theorem anyK_all {rs:List Nat}{n:Nat}{ls:Array Bool}{a:Act}{w:World}(hr:Region.ready md ops ls=rs)(hne:rs≠[])(h:∀j∈rs,wpOp P ops Q j (fun a' w'=>S j w'∧anyK P md ops Q S n (ls.setIfInBounds j true) a' w') a w):anyK P md ops Q S (n+1) ls a w:=
 ⟨fun h0=>absurd (hr▸h0) hne,hr▸h⟩
theorem anyK_done {ls:Array Bool}{a:Act}{w:World}(hr:Region.ready md ops ls=[])(h:Q .normal a w):∀n,anyK P md ops Q S n ls a w
 | 0=>⟨hr,h⟩
 | _+1=>⟨fun _=>h,by rw[hr];intro j hj;cases hj⟩
def SZ (z:Nat)(T:World→Prop):Nat→World→Prop:=fun j w=>j≠z→T w
def waitsB (md:Region.Mode)(ops:Array Oper)(z i:Nat):Bool:=match ops[z]? with
 | some o=>o.after.any fun e=>Region.binds md e && e.on==i
 | none=>false
theorem anyZ_take {T:World→Prop}{z i:Nat}{oi:Oper}{v:Value}{n:Nat}{ls:Array Bool}{a:Act}{w:World}(hi:ops[i]? =some oi)(hs:Region.noSelect ops=true)(hf:Region.free md ops ls i=true)(hr:(Region.ready md ops ls).contains i=true)(hz:waitsB md ops z i=true)
 (hQ:∀c a w,Q (.panic c) (a.put oi.dst v) w→Q (.panic c) a w) (hy:YieldsIf P ops T oi v a) (ht:T w) (h:anyK P md ops Q (SZ z T) n (ls.setIfInBounds i true) (a.put oi.dst v) w):anyK P md ops Q (SZ z T) (n+1) ls a w:=by
 refine anyK_first hi (Region.noSelect_spec hs) hQ (fun j oj hj _ hfj w hw=>hw ?_) (fun w hw _=>hw) n ls a w (Region.free_spec hi hf) (by simpa using hr) hy ht h
 rintro rfl
 unfold waitsB at hz
 rw[hj] at hz
 simp only[Array.any_eq_true,Bool.and_eq_true,beq_iff_eq] at hz
 obtain⟨k,hk,h1,h2⟩:=hz
 exact hfj _ (Array.getElem_mem hk) h1 h2
theorem anyZ_one {T:World→Prop}{z i:Nat}{o:Oper}{n:Nat}{ls:Array Bool}{a:Act}{w:World}(hr:Region.ready md ops ls=[i])(ho:ops[i]? =some o)(h:∀K':Act→World→Prop,Shut (∀a w,(i≠z→T w)→anyK P md ops Q (SZ z T) n (ls.setIfInBounds i true) a w→K' a w)→if Region.wanted o (yielded ops a.tmps)=true then Oper.wp P o a w K' Q else K' (a.put o.dst undef) w):anyK P md ops Q (SZ z T) (n+1) ls a w:=by
 refine anyK_all hr (by simp) (fun j hj=> ?_)
 cases List.mem_singleton.1 hj
 exact wpOp_step ho (fun K' hK=>h K' (fun a w hS hW=>hK a w ⟨hS,hW⟩))
theorem region_anyZ {T:World→Prop}(z:Nat){id:Nat}{a:Act}{w:World}(hm:P.follows .mixedOrders=true)(h:anyK P .any ops Q (SZ z T) ops.size (Array.replicate ops.size false) a w.drew):(Code.region id ops true).wp P Q a w:=region_anyK hm h
theorem heldD {T:World→Prop}{i:Nat}(d:Tmp){oi:Oper}{v:Value}{n:Nat}{ls:Array Bool}{a:Act}{w:World}(hi:ops[i]? =some oi)(hd:oi.dst=some d)(hs:Region.noSelect ops=true)(hf:Region.free md ops ls i=true)(hr:(Region.ready md ops ls).contains i=true)(hQ:∀c a w,Q (.panic c) (a.put oi.dst v) w→Q (.panic c) a w)(hy:YieldsIf P ops T oi v a)(ht:T w)
 (h:wpAnyH P md ops Q T n (ls.setIfInBounds i true) (a.put (some d) v) w):wpAnyH P md ops Q T (n+1) ls a w:=wpAnyH_take hi hs hf hr hQ hy ht (by rw[hd];exact h)
end
end Go.Proofs.YtepkhlpjgnckkaaGreatDoor
