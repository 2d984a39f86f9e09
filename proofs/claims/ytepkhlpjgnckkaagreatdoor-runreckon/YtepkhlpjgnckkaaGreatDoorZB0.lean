/- scope: within. scope: stmt, whatever it is. slices.Clone at parameters and at lists of numbers; a procedure's variables. scope: body. -/
import Derived.Test.YtepkhlpjgnckkaaGreatDoorZA9
import Derived.Laws.Cover3
import Derived.Lib.SliceRun
namespace Go.Proofs.YtepkhlpjgnckkaaGreatDoor
set_option maxRecDepth 100000
set_option maxHeartbeats 8000000
open Go.RowKit
open Par (Tr Stm Prm Chn Prc Prg Po ba)
theorem Tryz.infoAs:(Tryz.prog.info? 162).map (fun i=>(i.zero,i.size,i.bytes))=some (some (.map none),1,8):=by kernel_rfl
def WiI (w0:World)(L kb pb:Nat)(P:Prg)(F:Int→Sk.Vs→Bool→Stm→Option (Sk.Vs×Bool))(Xi:Nat→Prop)(w3 wr:World)(l:List Stm)(vs:Sk.Vs)(n c:Nat)(r:Sk.Vs×Bool)(i:Nat):Prop:=
 ∃X1 vk1 vs1 u1,Lk w0 wr L kb pb X1 P vs1 vk1 n u1 (i*c)∧Kl Xi X1 w3 wr∧Sk.seqT F (fun _=>0) i vs1 u1 (l.drop i)=some r∧∃ys,vs1=vs++ys
theorem ownNil (w:World)(B:Nat)(e:TypeId)(sz:Nat):w.ownsRow B e sz (.slice none 0 0) 0 []:=⟨by simp,.inl ⟨rfl,rfl⟩⟩
theorem wiSet {w4 w5:World}{kb pb f0 f:Nat}{v v':Value}{mk ma1 ma mr:Nat}(h5:w5=(((w4.setCell ⟨kb,1,none⟩ v').setCell ⟨kb,3,none⟩ (.int .i64 (f:Nat))).setCell ⟨kb,4,none⟩ (.map (some ma))).drew)(h:w4.heap[kb]? =some (.cells #[.pointer (some ⟨pb,0,none⟩),v,.map (some mk),.int .i64 (f0:Nat),.map (some ma1),.map (some mr)] 167 (0,0))):
 w5.heap[kb]? =some (.cells #[.pointer (some ⟨pb,0,none⟩),v',.map (some mk),.int .i64 (f:Nat),.map (some ma),.map (some mr)] 167 (0,0))∧(∀b,b≠kb→w5.heap[b]? =w4.heap[b]?)∧w5.heap.size=w4.heap.size∧Sm w4 w5:=by
 subst h5
 refine⟨?_,fun b hb=> ?_,?_,⟨rfl,rfl,rfl⟩⟩
 ·simp[World.setCell,World.drew,Array.getElem?_modify,h]
 ·exact(Below.heap_setCell _ _ _ _ hb).trans ((Below.heap_setCell _ _ _ _ hb).trans (Below.heap_setCell _ _ _ _ hb))
 ·simp[World.setCell,World.drew]
theorem withinK {w0:World}{L kb pb:Nat}{P:Prg}{F:Int→Sk.Vs→Bool→Stm→Option (Sk.Vs×Bool)}{c:Nat}(hS:StK w0 L kb pb P F c)(hExt:∀back vs u s r,F back vs u s=some r→∃ys,r.1=vs++ys){w:World}{X:Nat→Prop}{vs vk:Sk.Vs}{f:Nat}{N:Nat}(h:Lk w0 w L kb pb X P vs vk f false N){lv:Value}{l:List Stm}(hl:RwV StIs w0 (fun b=>b<L) 15 lv l)(hl0:0<l.length)(hl8:l.length≤8){r:Sk.Vs×Bool}(hq:Sk.seqT F (fun _=>0) 0 vs true l=some r)(hN:N+9*c<1000000000):
 Calls Tryz.prog 159 #[.pointer (some ⟨kb,0,none⟩),lv] w fun x w'=>x=.returned (.tuple #[])∧LkP w0 w L kb pb X P vs f true (N+8*c) w':=by
 obtain⟨vo,vc,mk,ma,mr,K,hE⟩:=h
 obtain⟨css,⟨ao,b,off,ac,rfl,hrow⟩,hlc,hlk⟩:=hl
 have hadr:=hrow.adr (by omega)
 have hbl:b<w.heap.size:=Nat.lt_of_lt_of_le (hrow.lt (by omega)) hE.bel.size
 have hbL:=hrow.ok (by omega)
 obtain⟨n,hn⟩:∃n,n=css.length:=⟨_,rfl⟩
 rw[←hn]
 subst hadr
 obtain⟨w1,hw1⟩:∃w1,w1=w.alloc (.cells #[.pointer (some ⟨b,off,none⟩),.int .i64 (n:Nat)] 243):=⟨_,rfl⟩
 have hE1:=hE.later (al1 hw1)
 obtain⟨hXr,cr,hcr⟩:=hE1.rt rfl
 have hla:(Instr.lookup 165 (.map (some mr)) (.agg #[.pointer (some ⟨b,off,none⟩),.int .i64 (n:Int)]) false).run Tryz.prog w1.drew=.ok (.slice none 0 0) w1.drew:=right_asks (w:=w1.drew) hcr b off n
 obtain⟨z0,z1,z2,z3,z4,z5,zl,zf⟩:=hE1.cells
 have hT1:=aa hw1
 have t0:w1.cell? ⟨w.heap.size,0,none⟩=some (.pointer (some ⟨b,off,none⟩)):=cl hT1 0 rfl
 have t1:w1.cell? ⟨w.heap.size,1,none⟩=some (.int .i64 (n:Nat)):=cl hT1 1 rfl
 have tl:=lt_of_block hT1
 have hn0:0<n:=by omega
 have hn8:n≤8:=by omega
 have hz0:((n:Int)==0)=false:=by simp;omega
 have HE1:=hidq hE1
 have HT1:=hidq hT1
 have HB1:Hid (Below w.heap.size w w1):=al1 hw1
 obtain⟨vn,hvn⟩:∃n,n=vs.length:=⟨_,rfl⟩
 rw[←hvn] at z1
 have HNN:Hid (n=css.length∧css.length=l.length∧vn=vs.length):=⟨hn,hlc,hvn⟩
 have HNP:Hid (¬X w.heap.size):=fun hx=>by have:=(hE.up _ hx).2;omega
 have HROW:=hidq hrow
 have HLK:=hidq hlk
 have HS:=hidq hS
 have HEX:=hidq hExt
 have HQ:=hidq hq
 clear hE hE1 hT1 hn hlc hvn hrow hlk hS hExt hq hl0 hl8
 go_enter Tryz.func159,Tryz.ntmps159
 go_upto_region 2 with fail
 rw[←hw1]
 clear hw1
 go_region
 go_wp2
 obtain⟨wd,hwd⟩:∃wd,wd=w1.drew:=⟨_,rfl⟩
 have hBd:Below w1.heap.size w1 wd:=by rw[hwd];exact(Below.refl _ _).drew
 have HED:=hidq (HE1.out.later hBd)
 have HTD:=hidq (ku hBd HT1.out)
 have HBD:Hid (Below w.heap.size w wd):=bu HB1.out hBd
 rw[←hwd]
 clear hwd hBd z0 z1 z2 z3 z4 z5 zl zf t0 t1 tl hla hcr HE1 HT1 HB1
 go_loopw [25] (fun i wr=>i=.int .i64 0∧wr=wd) (fun _ _=>0)
 case atStart=>exact⟨rfl,rfl⟩
 case round=>
  obtain⟨rfl,hwr⟩:=hrel
  subst hwr
  obtain⟨wd,rfl⟩:∃wx,wx=wr:=⟨_,rfl⟩
  obtain⟨z0,z1,_,z3,z4,_,zl,zf⟩:=HED.out.cells
  rw[←HNN.out.2.2] at z1
  have zf3:=zf 3
  have zf4:=zf 4
  clear zf
  have hmm:=@run_makeMap Tryz.prog
  obtain⟨w2,hw2⟩:∃w2,w2=wd.alloc (.cells #[.int .i64 (f:Nat),.map (some ma)] 164):=⟨_,rfl⟩
  have HE2:=hidq (HED.out.later (al1 hw2))
  have HT2:Hid (w2.heap[wd.heap.size]? =some (.cells #[.int .i64 (f:Nat),.map (some ma)] 164 (0,0))):=aa hw2
  have HTP:Hid (w2.heap[w.heap.size]? =some (.cells #[.pointer (some ⟨b,off,none⟩),.int .i64 (n:Nat)] 243 (0,0))):=ku (al1 hw2) HTD.out
  have HB2:Hid (Below w.heap.size w w2):=bu HBD.out (al1 hw2)
  go_upto_region 8 with fail
  rw[←hw2]
  clear hw2 z0 z1 z3 z4 zl zf3 zf4
  obtain⟨z0,z1,_,z3,z4,_,zl,zf⟩:=HE2.out.cells
  rw[←HNN.out.2.2] at z1
  have zf3:=zf 3
  have zf4:=zf 4
  clear zf
  obtain⟨w3,hw3⟩:∃w3,w3=((w2.setCell ⟨kb,3,none⟩ (.int .i64 (vn:Nat))).setCell ⟨kb,4,none⟩ (.map (some w2.heap.size))).alloc (.map #[] 0):=⟨_,rfl⟩
  have HIN:=hidq (HE2.out.inner (w3:=w3) (by rw[hw3,HNN.out.2.2]))
  go_upto_region 9 with fail
  rw[←hw3]
  clear hw3 z0 z1 z3 z4 zl zf3 zf4
  have HI0:Hid (WiI w0 L kb pb P F (fun b=>(X b∧b≠ma∧b≠mr)∨b=w2.heap.size) w3 w3 l vs vn c r 0):=⟨_,vk,vs,true,⟨vo,vc,mk,w2.heap.size,mr,K,by rw[HNN.out.2.2,Nat.zero_mul];exact HIN.out.1⟩,Kl.of (Kx.refl _ _),HQ.out,[],by simp⟩
  go_wp2
  go_loopw [49] (fun i wr=>∃k:Nat,k≤n∧i=.int .i64 k∧Hid (WiI w0 L kb pb P F (fun b=>(X b∧b≠ma∧b≠mr)∨b=w2.heap.size) w3 wr l vs vn c r k)) (fun i _=>n - (intOf i).toNat)
  case atStart=>exact⟨0,Nat.zero_le _,rfl,HI0⟩
  case round=>
   clear HI0
   obtain⟨k,hk,rfl,HI⟩:=hrel
   obtain⟨X1,vk1,vs1,u1,hlk1,hkl1,hsq,ys,hys⟩:=HI.out
   have hkc:k*c≤8*c:=Nat.mul_le_mul_right _ (by omega)
   by_cases hlt:k<n
   ·have hka:k<l.length:=by have:=HNN.out;omega
    have hkcs:k<css.length:=by have:=HNN.out;omega
    rw[List.drop_eq_getElem_cons hka] at hsq
    unfold Sk.seqT at hsq
    obtain⟨r1,hv,hsq2⟩:=Option.bind_eq_some_iff.1 hsq
    have hcall:=HS.out wr X1 vs1 vk1 vn u1 (k*c) b (off+k*15) l[k] 0 r1 hlk1 ⟨css[k],HROW.out.at hkcs,HLK.out k hka hkcs,HROW.out.pl (by omega)⟩ hv (by omega)
    obtain⟨zs,hzs⟩:=HEX.out _ _ _ _ _ hv
    have hbw:b<wr.heap.size:=Nat.lt_of_lt_of_le (by have:=HBD.out.size;have:=HB2.out.size;have:=HIN.out.2.2;omega) hkl1.1.size
    have HNX:Hid (∀w1,LkP w0 wr L kb pb X1 P r1.1 vn r1.2 (k*c+c) w1→WiI w0 L kb pb P F (fun b=>(X b∧b≠ma∧b≠mr)∨b=w2.heap.size) w3 w1 l vs vn c r (k+1)):=fun w1 ⟨X2,vk2,q1,q2⟩=>⟨X2,vk2,r1.1,r1.2,by rw[Nat.succ_mul];exact q1,hkl1.trans q2,hsq2,ys++zs,by rw[hzs,hys,List.append_assoc]⟩
    clear hlk1 hkl1 hsq hsq2 hv hys hzs HI hkcs hka
    go_wp2_with fail
    refine hcall.mono ?_
    rintro x w4 ⟨rfl,h4⟩
    have H4:=hidq (HNX.out w4 h4)
    clear h4 hcall
    go_wp2
    go_roundw
    case rel=>exact⟨k+1,by omega,by go_num,H4⟩
    case measure=>simp[intOf];omega
   ·obtain rfl:k=n:=by omega
    have hend:(vs1,u1)=r:=by
     rw[List.drop_of_length_le (by have:=HNN.out;omega)] at hsq
     exact Option.some.inj hsq
    obtain⟨vo1,vc1,mk1,ma1,mr1,K1,hEL⟩:=hlk1
    obtain rfl:mr1=mr:=by rw[hEL.mre,HED.out.mre]
    have hE2:=HE2.out
    obtain⟨hXr,cr,hcr⟩:=hE2.rt rfl
    obtain⟨Da,ea,ca,hma,_⟩:=hE2.asks
    have hmal:=lt_of_block hma
    have hmrl:=lt_of_block hcr
    have hkbm:∀(b:Nat) (es:Array MapEntry) (c:Nat),w2.heap[b]? =some (.map es c)→b≠kb:=fun b es c hm e=>by
     have:=hE2.blk
     rw[←e,hm] at this
     cases this
    have hXd:∀b,X b→b<wd.heap.size:=fun b hb=>(HED.out.up b hb).2
    have hkeep:∀b,b<w2.heap.size→b≠kb→(X b→b=ma∨b=mr1)→wr.heap[b]? =w2.heap[b]? :=fun b h1 h2 h3=>(hkl1.1.block b (fun hx=>by
     rcases hx with⟨hx,g1,g2⟩| hx
     ·rcases h3 hx with e | e
      ·exact g1 e
      ·exact g2 e
     ·omega) (by have:=HIN.out.2.2;omega)).trans (HIN.out.2.1 b h1 h2)
    have hmaW:=hkeep ma hmal (hkbm _ _ _ hma) (fun _=>.inl rfl)
    have hmrW:=hkeep mr1 hmrl (hkbm _ _ _ hcr) (fun _=>.inr rfl)
    have hkx:X kb:=HED.out.xk.1
    have hTW:=(hkeep wd.heap.size (lt_of_block HT2.out) (fun e=>by have:=hXd kb hkx;omega) (fun hx=>by have:=hXd _ hx;omega)).trans HT2.out
    have hPW:=(hkeep w.heap.size (lt_of_block HTP.out) (fun e=>by
     have h1:=hE2.blk
     rw[←e,HTP.out] at h1
     simp at h1) (fun hx=>absurd hx HNP.out)).trans HTP.out
    have hn7:wd.heap.size≠kb:=fun e=>by have:=hXd kb hkx;omega
    have hn9:wr.heap.size≠kb:=fun e=>by have:=(hEL.up kb hEL.xk.1).2;omega
    have HNK:Hid (w.heap.size≠kb):=fun e=>by
     have h1:=hE2.blk
     rw[←e,HTP.out] at h1
     simp at h1
    have HKM:Hid (mr1≠kb):=hkbm _ _ _ hcr
    have HMA:Hid (MapA wr ma N∧¬X1 ma∧L≤ma∧(∃es c,wr.heap[mr1]? =some (Obj.map es c))∧ma≠mr1):=⟨hE2.asks.keeps hmaW,fun hx=>by
     rcases hkl1.2 ma hx with h | h
     ·rcases h with h | h
      ·exact h.2.1 rfl
      ·omega
     ·have:=HIN.out.2.2;omega,(hE2.up ma hE2.xk.2.2).1,⟨_,_,hmrW.trans hcr⟩,hE2.ne.2.2⟩
    have HMR:Hid (wr.heap[mr1]? =some (.map #[] cr)):=hmrW.trans hcr
    have HEL:=hidq hEL
    have HTW:=hidq hTW
    have HPW:=hidq hPW
    obtain⟨z0,z1,_,z3,z4,z5,zl,zf⟩:=hEL.cells
    have HYS:Hid (vs1=vs++ys):=hys
    have HKL:=hidq hkl1
    obtain⟨v1,hv1⟩:∃n,n=vs1.length:=⟨_,rfl⟩
    rw[←hv1] at z1
    have HV1:=hidq hv1
    obtain⟨w4,hw4⟩:∃w4,w4=wr.alloc (.cells #[.int .i64 (vn:Nat),.map (some ma1)] 164):=⟨_,rfl⟩
    have HE4:=hidq (HEL.out.later (al1 hw4))
    have HB4:=hidq (al1 hw4)
    have HT4:Hid (w4.heap[wr.heap.size]? =some (.cells #[.int .i64 (vn:Nat),.map (some ma1)] 164 (0,0))):=aa hw4
    have hcase:(vo1=none∧v1=0∧vc1=0)∨∃gb,vo1=some ⟨gb,0,none⟩∧v1≤vc1∧vc1≤maxLen:=by
     obtain⟨cs1,ho,_⟩:=hEL.own.ex
     rcases ho.2 with⟨h1,_⟩|⟨gb,cap,cur,h1,_,_,h4,h5,_⟩
     ·rw[←hv1] at h1
      cases h1
      exact .inl ⟨rfl,rfl,rfl⟩
     ·simp only[Value.slice.injEq] at h1
      exact .inr ⟨gb,h1.1,by rw[h1.2.2];omega,by rw[h1.2.2];exact h5⟩
    have hvle:vn≤v1:=by have:=HNN.out.2.2;rw[hv1,HYS.out,List.length_append];omega
    clear hsq hend hE2 hXr hcr hma hmal hmrl hkbm hXd hkeep hmaW hmrW hkx hTW hPW hEL hkl1 hys hv1 HI
    go_upto_region 15 with fail
    rw[←hw4]
    clear hw4 z0 z1 z3 z4 z5 zl zf
    obtain⟨z0,z1,_,z3,z4,z5,zl,zf⟩:=HE4.out.cells
    rw[←HV1.out] at z1
    have zf1:=zf 1
    have zf3:=zf 3
    have zf4:=zf 4
    clear zf
    have hT4:=HT4.out
    have u0:w4.cell? ⟨wr.heap.size,0,none⟩=some (.int .i64 (vn:Nat)):=cl hT4 0 rfl
    have u1':w4.cell? ⟨wr.heap.size,1,none⟩=some (.map (some ma1)):=cl hT4 1 rfl
    have ul:=lt_of_block hT4
    have hT7:=ku HB4.out HTW.out
    have x0:w4.cell? ⟨wd.heap.size,0,none⟩=some (.int .i64 (f:Nat)):=cl hT7 0 rfl
    have x1:w4.cell? ⟨wd.heap.size,1,none⟩=some (.map (some ma)):=cl hT7 1 rfl
    have xl:=lt_of_block hT7
    clear hT4 hT7
    have hn7':=Ne.symm hn7
    have hn9':=Ne.symm hn9
    go_cut [] (fun wx=>Hid (wx.heap[kb]? =some (.cells #[.pointer (some ⟨pb,0,none⟩),.slice vo1 vn vc1,.map (some mk1),.int .i64 (f:Nat),.map (some ma),.map (some mr1)] 167 (0,0))∧(∀b,b≠kb→wx.heap[b]? =w4.heap[b]?)∧wx.heap.size=w4.heap.size∧Sm w4 wx))
    case first=>
     rcases hcase with⟨rfl,rfl,rfl⟩|⟨gb,rfl,hc1,hc2⟩
     ·obtain rfl:vn=0:=by omega
      go_region
      all_goals (try go_wp2_with fail)
      all_goals go_meet
      all_goals exact wiSet rfl HE4.out.blk
     ·unfold maxLen at hc2
      have hvc:vn≤vc1:=by omega
      have hvi:(vn:Int)≤(vc1:Int):=by omega
      go_region
      all_goals (try go_wp2_with fail)
      all_goals go_meet
      all_goals exact wiSet rfl HE4.out.blk
    case rest=>
     obtain⟨w5,hw5⟩:∃wx,wx=wc:=⟨_,rfl⟩
     subst hw5
     have HW5:=hidq hcut.out
     clear hcut z0 z1 z3 z4 z5 zl zf1 zf3 zf4 u0 u1' ul x0 x1 xl hn7' hn9' hn7
     have hX5:=HW5.out.1
     have z5:w5.cell? ⟨kb,5,none⟩=some (.map (some mr1)):=cl hX5 5 rfl
     have zl:=lt_of_block hX5
     have hP5:=(HW5.out.2.1 w.heap.size HNK.out).trans (ku HB4.out HPW.out)
     have p0:w5.cell? ⟨w.heap.size,0,none⟩=some (.pointer (some ⟨b,off,none⟩)):=cl hP5 0 rfl
     have p1:w5.cell? ⟨w.heap.size,1,none⟩=some (.int .i64 (k:Nat)):=cl hP5 1 rfl
     have pl:=lt_of_block hP5
     have hT5:=(HW5.out.2.1 wr.heap.size hn9).trans HT4.out
     have t1:w5.cell? ⟨wr.heap.size,1,none⟩=some (.map (some ma1)):=cl hT5 1 rfl
     have tl:=lt_of_block hT5
     have hM5:=(HW5.out.2.1 mr1 HKM.out).trans (ku HB4.out HMR.out)
     obtain⟨wa,hwa⟩:∃wa,wa=w5.alloc (.cells #[.map (some ma1)] 162):=⟨_,rfl⟩
     have hMa:=ku (al1 hwa) hM5
     obtain⟨wB,hme,hmB,hgB⟩:=right_entry (w:=wa.drew) (B:=mr1) (c:=cr) hMa b off k
     have HGB:Hid (wa.grownBy wB (some mr1)):=⟨hgB.os,hgB.tape,hgB.output,hgB.size,fun i h1 h2=>hgB.block i h1 h2⟩
     have HMB:=hidq hmB
     have HT5:=hidq hT5
     have HWA:=hidq hwa
     have HNEW:Hid (wB.heap[w5.heap.size]? =some (.cells #[.map (some ma1)] 162 (0,0))):=(HGB.out.block _ (by rw[hwa];simp) (fun e=>by injection e with e;have:=lt_of_block hM5;omega)).trans (aa hwa)
     have HLB:Hid (L≤wB.heap.size):=by
      have h1:=HGB.out.size
      have h2:=(HE4.out.up kb HE4.out.xk.1)
      have h3:=HW5.out.2.2.1
      rw[hwa] at h1
      simp at h1
      show L≤_
      omega
     rw[hwa] at hme
     clear hwa hmB hgB hP5 hT5 hM5 hX5 hMa
     have HFN:Hid (∀w8 w9:World,wB.grownBy w8 none→w8.grownBy w9 (some mr1)→w9.heap[kb]? =some (.cells #[.pointer (some ⟨pb,0,none⟩),.slice vo1 vn vc1,.map (some mk1),.int .i64 (f:Nat),.map (some ma),.map (some mr1)] 167 (0,0))∧(∀b,b<wr.heap.size→b≠kb→b≠mr1→w9.heap[b]? =wr.heap[b]?)∧wr.heap.size≤w9.heap.size∧Sm wr w9∧w9.heap[wr.heap.size]? =some (.cells #[.int .i64 (vn:Nat),.map (some ma1)] 164 (0,0))):=fun w8 w9 g8 g9=>by
      have hz4:=HB4.out.size
      have hz5:=HW5.out.2.2.1
      have hzB:=HGB.out.size
      have hz8:=g8.size
      have hza:wa.heap.size=w5.heap.size+1:=by rw[HWA.out];simp
      have hall:∀b,b<w5.heap.size→b≠mr1→w9.heap[b]? =w5.heap[b]? :=fun b h1 h2=>by
       rw[g9.block b (by omega) (fun e=>h2 (by injection e)),g8.block b (by omega) (by simp),HGB.out.block b (by omega) (fun e=>h2 (by injection e)),HWA.out]
       exact heap_alloc_old _ _ h1
      have hmr:=lt_of_block HMB.out
      have hkb5:=lt_of_block HW5.out.1
      refine⟨(hall kb hkb5 (Ne.symm HKM.out)).trans HW5.out.1,fun b h1 h2 h3=> ?_,by have:=g9.size;omega,?_,?_⟩
      ·rw[hall b (by omega) h3,HW5.out.2.1 b h2]
       exact HB4.out.block b h1
      ·exact(Sm.bel HB4.out).trans (HW5.out.2.2.2.trans (⟨by rw[HWA.out];rfl,by rw[HWA.out];rfl,by rw[HWA.out];rfl⟩ |>fun(h:Sm w5 wa)=>h.trans ((Sm.gro HGB.out).trans ((Sm.gro g8).trans (Sm.gro g9)))))
      ·rw[hall _ (lt_of_block HT5.out) (fun e=>by have:=HEL.out.mrl;omega)]
       exact HT5.out
     obtain⟨i0,hi0,hz0',hz1,hz2⟩:=info_parts Tryz.infoAs
     go_upto_region 16 with fail
     go_cut [] (fun wx=>Hid (wx.heap[kb]? =some (.cells #[.pointer (some ⟨pb,0,none⟩),.slice vo1 vn vc1,.map (some mk1),.int .i64 (f:Nat),.map (some ma),.map (some mr1)] 167 (0,0))∧(∀b,b<wr.heap.size→b≠kb→b≠mr1→wx.heap[b]? =wr.heap[b]?)∧wr.heap.size≤wx.heap.size∧Sm wr wx∧wx.heap[wr.heap.size]? =some (.cells #[.int .i64 (vn:Nat),.map (some ma1)] 164 (0,0))))
     case first=>
      go_region_law (first
       |(refine step_append_lies _ rfl _ _ 244 rfl L 162 i0 (.map none) 1 8 Tryz.underlying244 hi0 hz0' hz1 hz2 rfl (by decide) _ _ _ rfl (ownNil _ _ _ _) ⟨w5.heap.size,0,none⟩ 1 1 [.map (some ma1)] rfl rfl (World.news_of_block HNEW.out) (by intro u hu;simp only[List.mem_cons,List.not_mem_nil,or_false] at hu;rcases hu with rfl;rfl) (by decide) (by unfold maxLen;omega) (by omega) HLB.out _ rfl ?_
         intro g8 cap8 w8 hown8 hgrow8 hat8 hlt8
         have hg8:wB.grownBy w8 none:=hgrow8
         have hm8:=(hg8.block mr1 (lt_of_block HMB.out) (by simp)).trans HMB.out
         obtain⟨w9,hes,hg9⟩:=right_store hm8 (.slice (some ⟨g8,0,none⟩) (0+1) cap8)
         have HG:=hidq (HFN.out w8 w9 hg8 hg9)
         clear hown8 hgrow8 hat8 hg8 hm8 hg9))
      all_goals (try go_wp2_with fail)
      all_goals go_meet
      all_goals exact HG.out
     case rest=>
      obtain⟨w6,hw6⟩:∃wx,wx=wc:=⟨_,rfl⟩
      subst hw6
      have HC6:=hidq hcut.out
      clear hcut hme z5 zl p0 p1 pl t1 tl
      have hT6:=HC6.out.2.2.2.2
      have t1:w6.cell? ⟨wr.heap.size,1,none⟩=some (.map (some ma1)):=cl hT6 1 rfl
      have tl:=lt_of_block hT6
      clear hT6
      have hbel6:Below L w0 w6:=by
       have hb:=HEL.out.bel
       have hkb:=(HEL.out.up kb HEL.out.xk.1)
       have hsm:=HC6.out.2.2.2.1
       exact⟨hsm.os.trans hb.os,hsm.tape.trans hb.tape,hsm.out.trans hb.output,Nat.le_trans hb.size HC6.out.2.2.1,fun j hj=>(HC6.out.2.1 j (by omega) (by omega) (by have:=HEL.out.mre;omega)).trans (hb.block j hj)⟩
      have hout:=HEL.out.outer (w6:=w6) (f:=f) HNN.out.2.2 (by rw[HYS.out,List.length_append,←HNN.out.2.2];omega) (by rw[HYS.out,HNN.out.2.2];simp) HMA.out.1 HMA.out.2.1 HMA.out.2.2.1 HMA.out.2.2.2.1 HMA.out.2.2.2.2 HC6.out.1 HC6.out.2.1 HC6.out.2.2.1 hbel6
      have hfin:=findsK ⟨_,_,_,_,_,_,hout.1⟩ hout.2.1 hout.2.2 (by omega)
      have HKF:Hid (∀w7,Lk w0 w7 L kb pb (fun b=>(X1 b∧b≠ma1)∨b=ma) P vs vk1 f true (N+k*c)→Kx (fun b=>(X1 b∧b≠ma1)∨b=ma) w6 w7→LkP w0 w L kb pb X P vs f true (N+8*c) w7):=fun w7 q1 q2=>by
       have g1:=HB2.out.size
       have g2:=HIN.out.2.2
       have g3:=HKL.out.1.size
       have g4:=HC6.out.2.2.1
       have g5:=q2.size
       have hX1:∀b,X1 b→X b∨w.heap.size≤b:=fun b hx=>by
        rcases HKL.out.2 b hx with h | h
        ·rcases h with h | h
         ·exact .inl h.1
         ·exact .inr (by omega)
        ·exact .inr (by omega)
       have hXkb:=HED.out.xk.1
       have hXma:=HED.out.xk.2.2
       have hXmr:=(HED.out.rt rfl).1
       refine⟨_,vk1,q1.more (by omega),⟨⟨by omega,fun b hx hl=> ?_⟩,fun b hx=> ?_⟩⟩
       ·have n1:b≠kb:=fun e=>hx (e▸hXkb)
        have n2:b≠mr1:=fun e=>hx (e▸hXmr)
        have n3:b≠ma:=fun e=>hx (e▸hXma)
        have n4:¬X1 b:=fun h=>by
         rcases hX1 b h with h | h
         ·exact hx h
         ·omega
        rw[q2.block b (fun h=>by
         rcases h with h | h
         ·exact n4 h.1
         ·exact n3 h) (by omega),HC6.out.2.1 b (by omega) n1 n2,HKL.out.1.block b (fun h=>by
         rcases h with h | h
         ·exact hx h.1
         ·omega) (by omega),HIN.out.2.1 b (by omega) n1]
        exact HB2.out.block b hl
       ·rcases hx with h | h
        ·exact hX1 b h.1
        ·exact .inl (h▸hXma)
      clear hbel6 hout
      go_wp2_with fail
      refine hfin.mono ?_
      rintro x w7 ⟨bb,rfl,q1,q2⟩
      have HF7:=hidq (HKF.out w7 q1 q2)
      clear hfin q1 q2
      go_wp2
      go_end0
      exact⟨rfl,HF7.out⟩
theorem stmF_ext {P:Prg}{chk:List Po→Int}{m:Nat}{W:Sk.Vs→Bool→List Stm→Option Bool}{back:Int}{vs:Sk.Vs}{u:Bool}{s:Stm}{r:Sk.Vs×Bool}(h:Sk.stmF P chk m W back vs u s=some r):∃ys,r.1=vs++ys:=by
 obtain⟨k,p,s,o,d,l,e,a,b2⟩:=s
 unfold Sk.stmF at h
 dsimp only at h
 split at h
 ·obtain⟨t,_,h⟩:=Option.bind_eq_some_iff.1 h
  split at h
  ·cases h;exact⟨_,rfl⟩
  ·cases h
 split at h
 ·split at h
  ·cases h;exact⟨[],by simp⟩
  ·cases h
 split at h
 ·split at h
  ·obtain⟨u1,_,h⟩:=Option.bind_eq_some_iff.1 h
   obtain⟨u2,_,rfl⟩:=Option.map_eq_some_iff.1 h
   exact⟨[],by simp⟩
  ·cases h
 split at h
 ·split at h
  ·cases h;exact⟨[],by simp⟩
  ·cases h
 split at h
 ·split at h
  ·cases h;exact⟨[],by simp⟩
  ·cases h
 split at h
 ·split at h
  ·cases h;exact⟨[],by simp⟩
  ·cases h
 ·cases h
def WiC (w0:World)(L kb pb:Nat)(P:Prg)(W:Sk.Vs→Bool→List Stm→Option Bool)(c:Nat):Prop:=
 ∀(w:World) (X:Nat→Prop) (vs vk:Sk.Vs) (f:Nat) (u u':Bool) (N:Nat) (lv:Value) (l:List Stm),Lk w0 w L kb pb X P vs vk f u N→RwV StIs w0 (fun b=>b<L) 15 lv l→W vs u l=some u'→N+9*c<1000000000→
  Calls Tryz.prog 159 #[.pointer (some ⟨kb,0,none⟩),lv] w fun x w'=>x=.returned (.tuple #[])∧LkP w0 w L kb pb X P vs f u' (N+8*c) w'
theorem witK {w0:World}{L kb pb:Nat}{P:Prg}{chk:List Po→Int}{m n c:Nat}(hS:StK w0 L kb pb P (Sk.stmF P chk m (Sk.wit P chk m n)) c):WiC w0 L kb pb P (Sk.wit P chk m (n+1)) c:=by
 intro w X vs vk f u u' N lv l h hl hq hN
 have hq':(if l.length=0 then some u else if u=true then none else if l.length≤8 then(Sk.seqT (Sk.stmF P chk m (Sk.wit P chk m n)) (fun _=>0) 0 vs true l).map fun _=>true else none)=some u':=hq
 by_cases h0:l.length=0
 ·rw[if_pos h0] at hq'
  obtain rfl:=Option.some.inj hq'
  have HF:Hid (LkP w0 w L kb pb X P vs f u (N+8*c) w):=⟨X,vk,h.more (by omega),Kl.of (Kx.refl _ _)⟩
  obtain⟨ao,ac,rfl⟩:=hl.val
  rw[h0]
  clear h hl hq hq' hS h0
  go_enter Tryz.func159,Tryz.ntmps159
  go_wp2
  exact bodyPost_ret (v:=.tuple #[]) (by simp[results,Tryz.results159]) rfl ⟨rfl,HF.out⟩
 ·rw[if_neg h0] at hq'
  split at hq'
  ·cases hq'
  rename_i hu
  split at hq'
  ·rename_i h8
   obtain⟨r,hr,rfl⟩:=Option.map_eq_some_iff.1 hq'
   obtain rfl:u=false:=by simpa using hu
   exact withinK hS (fun _ _ _ _ _ h=>stmF_ext h) h hl (by omega) h8 hr hN
  ·cases hq'
theorem st_while {w0 w:World}{L kb pb:Nat}{X:Nat→Prop}{P:Prg}{vs vk:Sk.Vs}{f:Nat}{u:Bool}{N m b off:Nat}{cv av nv qv:Value}{p:Int}{s o:ByteArray}{d:Bool}{l:List Po}{e:Tr}{a b2:List Stm}{back:Int}{W:Sk.Vs→Bool→List Stm→Option Bool}{cc:Nat}{u1 u2:Bool}(hB:Lb w0 L pb P cv av nv qv)(h:Lk w0 w L kb pb X P vs vk f u N)(hx:AtS w0 L b off (.mk 4 p s o d l e a b2))(ht:Sk.typ P vs m e=some 2)(hWc:WiC w0 L kb pb P W cc)(hu1:W vs u a=some u1)(hu2:W vs u1 b2=some u2)(hN:N+(3+Sk.kst m+40*cc)<1000000000):
 Calls Tryz.prog 126 #[.pointer (some ⟨kb,0,none⟩),.pointer (some ⟨b,off,none⟩),.int .i64 back] w fun r w'=>r=.returned (.tuple #[])∧LkP w0 w L kb pb X P vs f u2 (N+(3+Sk.kst m+40*cc)) w':=by
 obtain⟨hsz,hoz,hxe,lv,av',bv',hlv,hra,hrb,hcell⟩:=st_parts hx
 obtain⟨mk,w1,X1,hw1,z2,zf,zl,H1⟩:=stNew h
 have HM:=hidq (muE (w:=w) (kb:=kb) (X:=X) (X1:=X1) (f:=f) (u:=u) hB hxe ht)
 have HWA:Hid (∀(W0:World) (N':Nat),Lk w0 W0 L kb pb X1 P vs vs f u N'→Kl X X1 w W0→N'+9*cc<1000000000→Calls Tryz.prog 159 #[.pointer (some ⟨kb,0,none⟩),av'] W0 fun x w'=>x=.returned (.tuple #[])∧Hid (LkP w0 w L kb pb X P vs f u1 (N'+8*cc) w')):=fun W0 N' q1 q2 q3=>by
  refine(hWc W0 X1 vs vs f u u1 N' av' a q1 hra hu1 q3).mono ?_
  rintro x w' ⟨rfl,X2,vk2,q4,q5⟩
  exact⟨rfl,X2,vk2,q4,q2.trans q5⟩
 have HWB:Hid (∀(W0:World) (N':Nat),LkP w0 w L kb pb X P vs f u1 N' W0→N'+9*cc<1000000000→Calls Tryz.prog 159 #[.pointer (some ⟨kb,0,none⟩),bv'] W0 fun x w'=>x=.returned (.tuple #[])∧Hid (LkP w0 w L kb pb X P vs f u2 (N'+8*cc) w')):=fun W0 N' ⟨X2,vk2,q1,q2⟩ q3=>by
  refine(hWc W0 X2 vs vk2 f u1 u2 N' bv' b2 q1 hrb hu2 q3).mono ?_
  rintro x w' ⟨rfl,X3,vk3,q4,q5⟩
  exact⟨rfl,X3,vk3,q4,q2.trans q5⟩
 obtain⟨ayo,ayc,rfl⟩:=hra.val
 obtain⟨byo,byc,rfl⟩:=hrb.val
 obtain⟨al,hal⟩:∃n,n=a.length:=⟨_,rfl⟩
 obtain⟨bl,hbl⟩:∃n,n=b2.length:=⟨_,rfl⟩
 rw[←hal,←hbl] at hcell
 rw[←hal] at HWA
 rw[←hbl] at HWB
 clear ht hWc hu1 hu2 hra hrb hal hbl
 have HC:=hidq hcell
 obtain⟨c0,c1,c2,c3,c5,c13,c14,cbl⟩:=hcell w h.bel
 have hti:=fun c p w=>tellIfC c p w
 have hmm:=@run_makeMap Tryz.prog
 clear h hx hcell hlv hB
 go_enter Tryz.func126,Tryz.ntmps126
 go_upto_region 1 with fail
 rw[←hw1]
 clear hw1 c0 c1 c2 c3 c5 c13 c14 cbl z2 zf zl
 obtain⟨d0,d1,d2,d3,d5,d13,d14,dbl⟩:=HC.out w1 H1.out.1.bel
 have hm:=HM.out w1 w1 N H1.out.1 H1.out.2 (Below.refl _ _) (by omega)
 go_wp2_with fail
 refine hm.mono ?_
 rintro x w2 ⟨rfl,H2⟩
 have ha:=HWA.out w2 _ H2.out.1 H2.out.2 (by omega)
 obtain⟨e0,e1,e2,e3,e5,e13,e14,ebl⟩:=HC.out w2 H2.out.1.bel
 clear hm d0 d1 d2 d3 d5 d13 d14 dbl
 go_wp2_with fail
 refine ha.mono ?_
 rintro x w3 ⟨rfl,H3⟩
 have hb:=HWB.out w3 _ H3.out (by omega)
 have hbel3:Below L w0 w3:=by obtain⟨X2,vk2,q1,_⟩:=H3.out;exact q1.bel
 obtain⟨g0,g1,g2,g3,g5,g13,g14,gbl⟩:=HC.out w3 hbel3
 clear ha e0 e1 e2 e3 e5 e13 e14 ebl hbel3
 go_wp2_with fail
 refine hb.mono ?_
 rintro x w4 ⟨rfl,H4⟩
 clear hb
 go_wp2
 go_end0
 obtain⟨X4,vk4,q1,q2⟩:=H4.out
 exact⟨rfl,X4,vk4,q1.more (by omega),q2⟩
theorem stmt_all {w0:World}{L kb pb:Nat}{P:Prg}{m:Nat}{cv av nv qv:Value}(hB:Lb w0 L pb P cv av nv qv):∀n,StK w0 L kb pb P (Sk.stmF P (checkL P.chiefs P.acts) m (Sk.wit P (checkL P.chiefs P.acts) m n)) (Sk.sst m n):=by
 have key:∀n,(∀n',n=n'+1→WiC w0 L kb pb P (Sk.wit P (checkL P.chiefs P.acts) m n) (Sk.sst m n'))→StK w0 L kb pb P (Sk.stmF P (checkL P.chiefs P.acts) m (Sk.wit P (checkL P.chiefs P.acts) m n)) (Sk.sst m n):=by
  intro n hW w X vs vk f u N b off s back r h hx hq hN
  obtain⟨k,p,s,o,d,l,e,a,b2⟩:=s
  have hc:3+Sk.kst m≤Sk.sst m n:=by
   cases n with
   | zero=>exact Nat.le_refl _
   | succ n=>show _≤3+Sk.kst m+40*Sk.sst m n;omega
  have fin:∀{vs':Sk.Vs} {u':Bool},(Calls Tryz.prog 126 #[.pointer (some ⟨kb,0,none⟩),.pointer (some ⟨b,off,none⟩),.int .i64 back] w fun x w'=>x=.returned (.tuple #[])∧LkP w0 w L kb pb X P vs' f u' (N+(3+Sk.kst m)) w')→Calls Tryz.prog 126 #[.pointer (some ⟨kb,0,none⟩),.pointer (some ⟨b,off,none⟩),.int .i64 back] w fun x w'=>x=.returned (.tuple #[])∧LkP w0 w L kb pb X P vs' f u' (N+Sk.sst m n) w':=fun hh=>hh.mono fun x w' ⟨h1,X',vk',h2,h3⟩=>⟨h1,X',vk',h2.more (by omega),h3⟩
  unfold Sk.stmF at hq
  dsimp only at hq
  by_cases h1:k=1
  ·subst h1
   rw[if_pos rfl] at hq
   obtain⟨t,ht,hq⟩:=Option.bind_eq_some_iff.1 hq
   split at hq
   ·rename_i hc1
    cases hq
    exact fin (st_let hB h hx hc1.1 ht hc1.2.1 hc1.2.2 (by omega))
   ·cases hq
  rw[if_neg h1] at hq
  by_cases h2:k=2
  ·subst h2
   rw[if_pos rfl] at hq
   split at hq
   ·rename_i hc1
    cases hq
    obtain⟨t,ht⟩:=Option.isSome_iff_exists.1 hc1.1
    exact fin (st_set hB h hx ht (hc1.2.trans ht) (by omega))
   ·cases hq
  rw[if_neg h2] at hq
  by_cases h4:k=4
  ·subst h4
   rw[if_pos rfl] at hq
   split at hq
   ·rename_i ht
    obtain⟨u1,hu1,hq⟩:=Option.bind_eq_some_iff.1 hq
    obtain⟨u2,hu2,rfl⟩:=Option.map_eq_some_iff.1 hq
    cases n with
    | zero=>cases hu1
    | succ n=>exact st_while hB h hx ht (hW n rfl) hu1 hu2 hN
   ·cases hq
  rw[if_neg h4] at hq
  by_cases h5:k=5
  ·subst h5
   rw[if_pos rfl] at hq
   split at hq
   ·rename_i hc1
    cases hq
    obtain⟨t,ht⟩:=Option.isSome_iff_exists.1 hc1.1
    exact fin (st_send hB h hx ht (hc1.2.trans ht) (by omega))
   ·cases hq
  rw[if_neg h5] at hq
  by_cases h6:k=6
  ·subst h6
   rw[if_pos rfl] at hq
   split at hq
   ·rename_i hc1
    cases hq
    obtain⟨t,ht⟩:=Option.isSome_iff_exists.1 hc1.1
    exact fin (st_take hB h hx ht (hc1.2.trans ht) (by omega))
   ·cases hq
  rw[if_neg h6] at hq
  by_cases h8:k=8
  ·subst h8
   rw[if_pos rfl] at hq
   split at hq
   ·rename_i hc1
    cases hq
    exact fin (st_ret hB h hx hc1.1 hc1.2 (by omega))
   ·cases hq
  ·rw[if_neg h8] at hq
   cases hq
 intro n
 induction n with
 | zero=>exact key 0 fun n' e=>by omega
 | succ n ih=>
  refine key (n+1) fun n' e=> ?_
  obtain rfl:n=n':=by omega
  exact witK ih
theorem cell_bel' {w w':World}(hb:Below w.heap.size w w'){a:Addr}{u:Value}(h:w.cell? a=some u):w'.cell? a=some u:=by
 have hl:a.block<w.heap.size:=by
  rcases Nat.lt_or_ge a.block w.heap.size with h1 | h1
  ·exact h1
  ·simp[World.cell?,Array.getElem?_eq_none h1] at h
 exact(hb.cell hl).trans h
theorem Tryz.infoL:(Tryz.prog.info? 48).map (fun i=>(i.zero,i.size,i.bytes))=some (some (.slice none 0 0),1,24):=by kernel_rfl
theorem eqlPm (ao:Option Addr)(n c:Nat)(w:World):(binOp .eql 83 (.slice ao n c) (.slice none 0 0)).run Tryz.prog w=.ok (.bool ao.isNone) w:=by
 show(Bind.bind (Op.equal 83 (.slice ao n c) (.slice none 0 0)) fun r=>(Pure.pure (Value.bool r):Sem Value)).run Tryz.prog w=_
 simp[run_equal_slice_nil w 83 85 ao n c Tryz.underlying83]
theorem clonePm (a:Addr)(n c:Nat)(news:List Value)(w:World)(hl:news.length=n*3)(hm:n≤1000)(hc:∀j u,news[j]? =some u→w.cell? (a.add j)=some u)(h1:∀u∈news,u.oneCell'=true):
 Calls Tryz.prog 125 #[.slice (some a) n c] w fun e w'=>∃v,e=.returned v∧w'.ownsRow w.heap.size 85 3 v n news∧Below w.heap.size w w':=by
 have HL:Hid (news.length=n*3):=hl
 have HC:Hid (∀j u,news[j]? =some u→w.cell? (a.add j)=some u):=hc
 have H1:Hid (∀u∈news,u.oneCell'=true):=h1
 clear hl hc h1
 obtain⟨i0,hi,hz0,hz1,hz2⟩:=info_parts Tryz.infoPm
 have hnil:=fun wx=>eqlPm (some a) n c wx
 simp only[Option.isNone_some] at hnil
 go_enter Tryz.func125,Tryz.ntmps125
 have HO:Hid ((w.alloc (.cells #[] 85)).ownsRow w.heap.size 85 3 (.slice (some ⟨w.heap.size,0,none⟩) 0 0) 0 []):=
  ⟨rfl,.inr ⟨w.heap.size,0,#[],rfl,Nat.le_refl _,heap_at_alloc _ _ _ rfl,Nat.le_refl _,by simp[maxLen],rfl,rfl⟩⟩
 go_wp2_with (at_builtin;refine wpList_append_own _ rfl _ _ 83 rfl w.heap.size 85 i0 (.agg #[.string ⟨#[]⟩,.int .i64 0,.slice none 0 0]) 3 48 Tryz.underlying83 hi hz0 hz1 hz2 rfl (by decide) _ _ _ rfl HO.out a n c news rfl ?c0 ?c1 ?c2 ?c3 ?c4 ?c5 ?_)
 case c0=>rw[HL.out]
 case c1=>
  have hb:Below w.heap.size w (w.alloc (.cells #[] 85)):=(Below.refl _ _).alloc (Nat.le_refl _) _
  exact fun j u hu=>(cell_bel' hb (HC.out j u hu))
 case c2=>exact H1.out
 case c3=>unfold maxLen;omega
 case c4=>omega
 case c5=>simp
 ·intro v' w2 hown2 hgrow2 _
  have HB:Hid (Below w.heap.size w w2):=((Below.refl w.heap.size w).alloc (Nat.le_refl _) _).grown hgrow2 (by simp) (fun k he=>by simp[Value.ownBlock] at he;omega)
  have HW:Hid (w2.ownsRow w.heap.size 85 3 v' n news):=by
   show World.ownsRow _ _ _ _ _ _ _
   simpa using hown2
  clear hown2 hgrow2
  go_wp2
  go_ret
  exact⟨_,rfl,HW.out,HB.out⟩
theorem clonePmn (n c:Nat)(w:World):Calls Tryz.prog 125 #[.slice none n c] w fun e w'=>e=.returned (.slice none 0 0)∧w'=w:=by
 have hnil:=fun wx=>eqlPm none n c wx
 simp only[Option.isNone_none] at hnil
 go_enter Tryz.func125,Tryz.ntmps125
 go_wp2
 go_ret
 exact⟨rfl,rfl⟩
theorem eqlLi (ao:Option Addr)(n c:Nat)(w:World):(binOp .eql 28 (.slice ao n c) (.slice none 0 0)).run Tryz.prog w=.ok (.bool ao.isNone) w:=by
 show(Bind.bind (Op.equal 28 (.slice ao n c) (.slice none 0 0)) fun r=>(Pure.pure (Value.bool r):Sem Value)).run Tryz.prog w=_
 simp[run_equal_slice_nil w 28 48 ao n c Tryz.underlying28]
theorem cloneLi (a:Addr)(n c:Nat)(news:List Value)(w:World)(hl:news.length=n*1)(hm:n≤1000)(hc:∀j u,news[j]? =some u→w.cell? (a.add j)=some u)(h1:∀u∈news,u.oneCell'=true):
 Calls Tryz.prog 19 #[.slice (some a) n c] w fun e w'=>∃v,e=.returned v∧w'.ownsRow w.heap.size 48 1 v n news∧Below w.heap.size w w':=by
 have HL:Hid (news.length=n*1):=hl
 have HC:Hid (∀j u,news[j]? =some u→w.cell? (a.add j)=some u):=hc
 have H1:Hid (∀u∈news,u.oneCell'=true):=h1
 clear hl hc h1
 obtain⟨i0,hi,hz0,hz1,hz2⟩:=info_parts Tryz.infoL
 have hnil:=fun wx=>eqlLi (some a) n c wx
 simp only[Option.isNone_some] at hnil
 go_enter Tryz.func19,Tryz.ntmps19
 have HO:Hid ((w.alloc (.cells #[] 48)).ownsRow w.heap.size 48 1 (.slice (some ⟨w.heap.size,0,none⟩) 0 0) 0 []):=
  ⟨rfl,.inr ⟨w.heap.size,0,#[],rfl,Nat.le_refl _,heap_at_alloc _ _ _ rfl,Nat.le_refl _,by simp[maxLen],rfl,rfl⟩⟩
 go_wp2_with (at_builtin;refine wpList_append_own _ rfl _ _ 28 rfl w.heap.size 48 i0 (.slice none 0 0) 1 24 Tryz.underlying28 hi hz0 hz1 hz2 rfl (by decide) _ _ _ rfl HO.out a n c news rfl ?c0 ?c1 ?c2 ?c3 ?c4 ?c5 ?_)
 case c0=>rw[HL.out]
 case c1=>
  have hb:Below w.heap.size w (w.alloc (.cells #[] 48)):=(Below.refl _ _).alloc (Nat.le_refl _) _
  exact fun j u hu=>(cell_bel' hb (HC.out j u hu))
 case c2=>exact H1.out
 case c3=>unfold maxLen;omega
 case c4=>omega
 case c5=>simp
 ·intro v' w2 hown2 hgrow2 _
  have HB:Hid (Below w.heap.size w w2):=((Below.refl w.heap.size w).alloc (Nat.le_refl _) _).grown hgrow2 (by simp) (fun k he=>by simp[Value.ownBlock] at he;omega)
  have HW:Hid (w2.ownsRow w.heap.size 48 1 v' n news):=by
   show World.ownsRow _ _ _ _ _ _ _
   simpa using hown2
  clear hown2 hgrow2
  go_wp2
  go_ret
  exact⟨_,rfl,HW.out,HB.out⟩
theorem own_mono {w:World}{B B' e sz n:Nat}{v:Value}{xs:List Value}(h:w.ownsRow B e sz v n xs)(hb:B'≤B):w.ownsRow B' e sz v n xs:=by
 refine⟨h.1,?_⟩
 rcases h.2 with h2 |⟨g,cap,cur,h1,h2,rest⟩
 ·exact .inl h2
 ·exact .inr ⟨g,cap,cur,h1,by omega,rest⟩
def vsOf (l:List Prm):Sk.Vs:=l.map fun p=>(p.name,p.type)
theorem clonePrm {w:World}{S:Nat→Prop}{v:Value}{l:List Prm}(h:RwV PmIs w S 3 v l)(hl:l.length≤900):Calls Tryz.prog 125 #[v] w fun e w'=>∃vo vc,e=.returned (.slice vo l.length vc)∧Hid (OwnL VsIs w' w.heap.size 85 3 (.slice vo l.length vc) (vsOf l)∧Below w.heap.size w w'):=by
 obtain⟨css,⟨ao,b,off,c,rfl,hr⟩,hc,hk⟩:=h
 have hvs:∀i (h:i<(vsOf l).length) (h':i<css.length),∀(W:World) (S:Nat→Prop),VsIs W S (vsOf l)[i] css[i]:=fun i h h' W S=>by
  obtain⟨lv,e,_,hlv⟩:=hk i (by simpa[vsOf] using h) h'
  obtain⟨lo,lc,rfl⟩:=hlv.val
  refine⟨.slice lo (l[i]'(by simpa[vsOf] using h)).lab.length lc,?_,rfl⟩
  rw[e]
  simp[vsOf]
 have hlv:(vsOf l).length=l.length:=by simp[vsOf]
 cases ao with
 | none=>
  have h0:css.length=0:=by
   apply Classical.byContradiction
   intro hne
   have:=hr.adr (by omega)
   cases this
  refine(clonePmn css.length c w).mono ?_
  rintro e w' ⟨rfl,rfl⟩
  have hl0:l.length=0:=by omega
  have e:l=[]:=List.length_eq_zero_iff.1 hl0
  subst e
  exact⟨none,0,rfl,OwnL.nil _ _ _ _ _,Below.refl _ _⟩
 | some a=>
  have hsz:∀i (h:i<css.length),css[i].length=3:=hr.szs
  refine(clonePm a css.length c css.flatten w (flat_len hsz) (by omega) (fun j u hu=> ?_) (fun u hu=> ?_)).mono ?_
  ·have hj:j<css.flatten.length:=(List.getElem?_eq_some_iff.1 hu).1
   rw[flat_len hsz] at hj
   have ha:=hr.adr (by omega)
   injection ha with ha
   subst ha
   have hdm:=Nat.div_add_mod j 3
   have hq:j / 3<css.length:=by omega
   have e1:=flat_at hsz (j / 3) hq (j % 3) (Nat.mod_lt _ (by decide))
   rw[show j / 3*3+j % 3=j by omega] at e1
   have:=hr.cell (j / 3) hq (j % 3) u (e1.symm.trans hu)
   have e3:off+j / 3*3+j % 3=off+j:=by omega
   rw[e3] at this
   have e2:(⟨b,off,none⟩:Addr).add j=⟨b,off+j,none⟩:=by
    simp[Addr.add]
    try omega
   rw[e2]
   exact this
  ·obtain⟨x,hx,hu⟩:=List.mem_flatten.1 hu
   obtain⟨i,hi,rfl⟩:=List.getElem_of_mem hx
   exact isElVs.one (hvs i (by rw[hlv];omega) hi w (fun _=>True)) u hu
  ·rintro e w' ⟨v,rfl,hown,hb⟩
   obtain⟨vo,vc,rfl⟩:∃vo vc,v=.slice vo l.length vc:=by
    rcases hown.2 with⟨h1,h2⟩|⟨g,cap,cur,h1,_⟩
    ·exact⟨none,0,by rw[h1,show l.length=0 by omega]⟩
    ·exact⟨_,_,by rw[h1,hc]⟩
   refine⟨vo,vc,rfl,⟨css,?_,by rw[hlv,hc],fun i h h'=>hvs i h h' _ _⟩,hb⟩
   rw[hlv,←hc]
   rw[hc] at hown
   rw[hc]
   exact hown
theorem LkE.setV {w0 w w1 w2:World}{L kb pb:Nat}{X:Nat→Prop}{P:Prg}{vs vk vs':Sk.Vs}{f:Nat}{u:Bool}{N:Nat}{vo:Option Addr}{vc mk ma mr:Nat}{K:List KE}(h:LkE w0 w L kb pb X P vs vk f u N vo vc mk ma mr K){vo':Option Addr}{vc':Nat}(hf:vs'.length≤1000)(hb:Below w.heap.size w w1)(hown:OwnL VsIs w1 w.heap.size 85 3 (.slice vo' vs'.length vc') vs')(h2:w2=w1.setCell ⟨kb,1,none⟩ (.slice vo' vs'.length vc')):LkP w0 w L kb pb X P vs' f u N w2:=by
 have hkb:=h.up kb h.xk.1
 have hz1:=hb.size
 have hz2:w2.heap.size=w1.heap.size:=by rw[h2];simp[World.setCell]
 have hst:∀b,b<w.heap.size→b≠kb→w2.heap[b]? =w.heap[b]? :=fun b h1 e=>by
  rw[h2]
  exact(Below.heap_setCell _ _ _ _ e).trans (hb.block b h1)
 have hsm:Sm w w2:=(Sm.bel hb).trans (by rw[h2];exact Sm.set _ _ _)
 have hkbm:∀(b:Nat) (es:Array MapEntry) (c:Nat),w.heap[b]? =some (.map es c)→b≠kb:=fun b es c hm e=>by
  have:=h.blk
  rw[←e,hm] at this
  cases this
 obtain⟨css,j1,j2,j3⟩:=hown.ex
 obtain⟨D,es,clock,ha1,_⟩:=h.asks
 obtain⟨⟨es2,clock2,hk1,_⟩,_⟩:=h.kn
 refine⟨fun b=>X b∨(w.heap.size≤b∧b<w1.heap.size),vk,⟨vo',vc',mk,ma,mr,K,?_,?_,⟨css,?_,j2,j3⟩,h.kn.keeps (hst mk (h.up mk h.xk.2.1).2 (hkbm mk _ _ hk1)) fun q hq=> ?_,h.ok,h.asks.keeps (hst ma (h.up ma h.xk.2.2).2 (hkbm ma _ _ ha1)),⟨.inl h.xk.1,.inl h.xk.2.1,.inl h.xk.2.2⟩,fun k e=> ?_,h.ne,fun e=>⟨.inl (h.rt e).1,?_⟩,fun b hb'=> ?_,hf,by have:=h.mrl;omega,h.mre⟩,⟨⟨by omega,fun b hx hl=>hst b hl fun e=>hx (by rw[e];exact h.xk.1)⟩,fun b hb'=>hb'.imp id fun e=>e.1⟩⟩
 ·exact⟨hsm.os.trans h.bel.os,hsm.tape.trans h.bel.tape,hsm.out.trans h.bel.output,by have:=h.bel.size;omega,fun k hk=>(hst k (by omega) (by omega)).trans (h.bel.block k hk)⟩
 ·have:=(hb.block kb hkb.2).trans h.blk
  rw[h2]
  simp[World.setCell,Array.getElem?_modify,this]
 ·rw[h2]
  exact ownsRow_setCell_other (own_mono j1 (by omega)) (a:=⟨kb,1,none⟩) (fun e=>by have:=(j1.lt kb e).1;omega) _
 ·have:=(h.ok q hq).1
  exact hst _ (by omega) (by omega)
 ·have:=j1.lt k e
  exact⟨.inr ⟨this.1,this.2⟩,by omega⟩
 ·obtain⟨c,hc⟩:=(h.rt e).2
  exact⟨c,(hst mr (h.up mr (h.rt e).1).2 (hkbm mr _ _ hc)).trans hc⟩
 ·rcases hb' with hb' | hb'
  ·have:=h.up b hb';omega
  ·omega
def kindS:Stm→Int
 | .mk k _ _ _ _ _ _ _ _=>k
theorem st_kind {w:World}{S:Nat→Prop}{s:Stm}{cs:List Value}(h:StIs w S s cs):cs[0]? =some (.int .i64 (kindS s)):=by
 cases h with
 | mk=>rfl
def BoI (w0:World)(L kb pb:Nat)(P:Prg)(F:Int→Sk.Vs→Bool→Stm→Option (Sk.Vs×Bool))(bk:Nat→Int)(X:Nat→Prop)(w wr:World)(l:List Stm)(f N c:Nat)(r:Sk.Vs×Bool)(i:Nat):Prop:=
 ∃X1 vk1 vs1 u1,Lk w0 wr L kb pb X1 P vs1 vk1 f u1 (N+i*c)∧Kl X X1 w wr∧Sk.seqT F bk i vs1 u1 (l.drop i)=some r
theorem bodyK {w0 w:World}{L kb pb:Nat}{X:Nat→Prop}{P:Prg}{vs vk:Sk.Vs}{f:Nat}{u u':Bool}{N m n b off:Nat}{cv av nv qv:Value}{q:Prc}{cs:List Value}(hB:Lb w0 L pb P cv av nv qv)(h:Lk w0 w L kb pb X P vs vk f u N)(hat:At w0 (fun b=>b<L) b off cs)(hpc:PcIs w0 (fun b=>b<L) q cs)(hpl:q.params.length≤900)(hq:Sk.bodyF P (checkL P.chiefs P.acts) m n u q=some u')(hN:N+9*Sk.sst m n<1000000000):
 Calls Tryz.prog 88 #[.pointer (some ⟨kb,0,none⟩),.pointer (some ⟨b,off,none⟩)] w fun x w'=>x=.returned (.tuple #[])∧Hid (∃vs',LkP w0 w L kb pb X P vs' f u' (N+8*Sk.sst m n) w'):=by
 unfold Sk.bodyF at hq
 split at hq
 case isFalse=>cases hq
 rename_i hcond
 obtain⟨⟨vsE,uE⟩,hsq,rfl⟩:=Option.map_eq_some_iff.1 hq
 obtain⟨hb8,hret⟩:=hcond
 obtain⟨pv,rl,bv,fv,yv,rfl, -, -,hpar, -, -, -,hbod⟩:=hpc
 obtain⟨po,pc,rfl⟩:=hpar.val
 obtain⟨css,⟨yo,yb,yoff,yc,rfl,hrow⟩,hyc,hyk⟩:=hbod
 obtain⟨bn,hbn⟩:∃n,n=css.length:=⟨_,rfl⟩
 rw[←hbn] at hat
 obtain⟨pn,hpn⟩:∃n,n=q.params.length:=⟨_,rfl⟩
 rw[←hpn] at hat
 obtain⟨rt,hrt⟩:∃n,n=q.result.type:=⟨_,rfl⟩
 rw[←hrt] at hat hsq hret
 have HC:Hid (∀W,Below L w0 W→W.cell? ⟨b,off,none⟩=some (.int .i64 q.at_)∧W.cell? ⟨b,off+2,none⟩=some (.slice po pn pc)∧W.cell? ⟨b,off+4,none⟩=some (.int .i64 rt)∧W.cell? ⟨b,off+8,none⟩=some (.slice yo bn yc)∧b<W.heap.size):=fun W hW=>by
  have h1:=hat.keeps (kbase hW)
  exact⟨h1.cell 0 _ rfl,h1.cell 2 _ rfl,h1.cell 4 _ rfl,h1.cell 8 _ rfl,h1.lt⟩
 obtain⟨q0,q2,q4,q8,ql⟩:=HC.out w h.bel
 have HCL:Hid (Calls Tryz.prog 125 #[.slice po pn pc] w fun e w'=>∃vo vc,e=.returned (.slice vo pn vc)∧Hid (OwnL VsIs w' w.heap.size 85 3 (.slice vo pn vc) (vsOf q.params)∧Below w.heap.size w w')):=by
  have h1:=clonePrm (hpar.keeps (fun hh=>isElM.keeps hh (kbase h.bel)) (kbase h.bel)) hpl
  rw[←hpn] at h1
  exact h1
 have hvl:(vsOf q.params).length=pn:=by simp[vsOf,hpn]
 obtain⟨vo0,vc0,mk,ma,mr,K,hE⟩:=h
 have HSET:Hid (∀(w1:World) (vo:Option Addr) (vc:Nat),OwnL VsIs w1 w.heap.size 85 3 (.slice vo pn vc) (vsOf q.params)→Below w.heap.size w w1→LkP w0 w L kb pb X P (vsOf q.params) f u N (w1.setCell ⟨kb,1,none⟩ (.slice vo pn vc))):=fun w1 vo vc h1 h2=>by
  refine hE.setV (by omega) h2 (vo':=vo) (vc':=vc) ?_ ?_
  ·rw[hvl];exact h1
  ·rw[hvl]
 have HBK:=hidq hE.blk
 have HST:=hidq (stmt_all (kb:=kb) (m:=m) hB n)
 have HROW:=hidq hrow
 have HYK:=hidq hyk
 have HSQ:=hidq hsq
 have HBN:Hid (bn=css.length∧css.length=q.body.length):=⟨hbn,hyc⟩
 have hbn8:bn≤8:=by omega
 have HRT:=hidq hret
 obtain⟨v0,hv0⟩:∃n,n=vs.length:=⟨_,rfl⟩
 clear hE hB hrow hyk hsq hyc hbn hvl hpar hat hpn hrt hret hb8 hq hpl
 go_enter Tryz.func88,Tryz.ntmps88
 go_wp2_with fail
 refine HCL.out.mono ?_
 rintro x w1 ⟨vo1,vc1,rfl,H1⟩
 have hk1:=ku H1.out.2 HBK.out
 have y1:=cl hk1 1 rfl
 have yf:=fz hk1 1
 have yl:=lt_of_block hk1
 obtain⟨w2,hw2⟩:∃w2,w2=w1.setCell ⟨kb,1,none⟩ (.slice vo1 pn vc1):=⟨_,rfl⟩
 have H2:Hid (LkP w0 w L kb pb X P (vsOf q.params) f u N w2):=by rw[hw2];exact HSET.out w1 vo1 vc1 H1.out.1 H1.out.2
 clear hk1 q0 q2 q4 q8 ql
 go_upto_region 1 with fail
 rw[←hw2]
 clear hw2 y1 yf yl
 have hbel2:Below L w0 w2:=by obtain⟨X2,vk2,g1,_⟩:=H2.out;exact g1.bel
 obtain⟨q0,q2,q4,q8,ql⟩:=HC.out w2 hbel2
 have HI0:Hid (BoI w0 L kb pb P (Sk.stmF P (checkL P.chiefs P.acts) m (Sk.wit P (checkL P.chiefs P.acts) m n)) (fun i=>if i+1=q.body.length then rt else 0) X w w2 q.body f N (Sk.sst m n) (vsE,uE) 0):=by
  obtain⟨X2,vk2,g1,g2⟩:=H2.out
  exact⟨X2,vk2,_,u,by rw[Nat.zero_mul];exact g1,g2,HSQ.out⟩
 clear hbel2
 go_wp2
 clear q0 q2 q4 q8 ql
 go_loopw [27] (fun i wr=>∃k:Nat,k≤bn∧i=.int .i64 k∧Hid (BoI w0 L kb pb P (Sk.stmF P (checkL P.chiefs P.acts) m (Sk.wit P (checkL P.chiefs P.acts) m n)) (fun i=>if i+1=q.body.length then rt else 0) X w wr q.body f N (Sk.sst m n) (vsE,uE) k)) (fun i _=>bn - (intOf i).toNat)
 case atStart=>exact⟨0,Nat.zero_le _,rfl,HI0⟩
 case round=>
  clear HI0
  obtain⟨k,hk,rfl,HI⟩:=hrel
  obtain⟨X1,vk1,vs1,u1,hlk1,hkl1,hsq⟩:=HI.out
  obtain⟨q0,q2,q4,q8,ql⟩:=HC.out wr hlk1.bel
  have hkc:k*Sk.sst m n≤8*Sk.sst m n:=Nat.mul_le_mul_right _ (by omega)
  by_cases hlt:k<bn
  ·have hka:k<q.body.length:=by have:=HBN.out;omega
   have hkcs:k<css.length:=by have:=HBN.out;omega
   rw[List.drop_eq_getElem_cons hka] at hsq
   unfold Sk.seqT at hsq
   obtain⟨r1,hv,hsq2⟩:=Option.bind_eq_some_iff.1 hsq
   obtain⟨bk,hbk⟩:∃x:Int,x=if k+1=q.body.length then rt else 0:=⟨_,rfl⟩
   have hcall:=HST.out wr X1 vs1 vk1 f u1 (N+k*Sk.sst m n) yb (yoff+k*15) q.body[k] bk r1 hlk1 ⟨css[k],HROW.out.at hkcs,HYK.out k hka hkcs,HROW.out.pl (by omega)⟩ (by rw[hbk];exact hv) (by omega)
   have hadr:=HROW.out.adr (by omega)
   have hbw:yb<wr.heap.size:=Nat.lt_of_lt_of_le (HROW.out.lt (by omega)) hlk1.bel.size
   have HNX:Hid (∀w1,LkP w0 wr L kb pb X1 P r1.1 f r1.2 (N+k*Sk.sst m n+Sk.sst m n) w1→BoI w0 L kb pb P (Sk.stmF P (checkL P.chiefs P.acts) m (Sk.wit P (checkL P.chiefs P.acts) m n)) (fun i=>if i+1=q.body.length then rt else 0) X w w1 q.body f N (Sk.sst m n) (vsE,uE) (k+1)):=fun w1 ⟨X2,vk2,g1,g2⟩=>⟨X2,vk2,r1.1,r1.2,by rw[Nat.succ_mul,←Nat.add_assoc];exact g1,hkl1.trans g2,hsq2⟩
   have hbl:=HBN.out
   by_cases hlast:k+1=bn
   ·have hd:((k:Int)==(bn:Int) - 1)=true:=by simp;omega
    rw[if_pos (by omega)] at hbk
    subst hbk
    clear hlk1 hkl1 hsq hsq2 hv HI hkcs hka hbl
    subst hadr
    go_wp2_with fail
    refine hcall.mono ?_
    rintro x w4 ⟨rfl,h4⟩
    have H4:=hidq (HNX.out w4 h4)
    clear h4 hcall
    go_wp2
    go_roundw
    case rel=>exact⟨k+1,by omega,by go_num,H4⟩
    case measure=>simp[intOf];omega
   ·have hd:((k:Int)==(bn:Int) - 1)=false:=by simp;omega
    rw[if_neg (by omega)] at hbk
    subst hbk
    clear hlk1 hkl1 hsq hsq2 hv HI hkcs hka hbl
    subst hadr
    go_wp2_with fail
    refine hcall.mono ?_
    rintro x w4 ⟨rfl,h4⟩
    have H4:=hidq (HNX.out w4 h4)
    clear h4 hcall
    go_wp2
    go_roundw
    case rel=>exact⟨k+1,by omega,by go_num,H4⟩
    case measure=>simp[intOf];omega
  ·obtain rfl:k=bn:=by omega
   have hend:(vs1,u1)=(vsE,uE):=by
    rw[List.drop_of_length_le (by have:=HBN.out;omega)] at hsq
    exact Option.some.inj hsq
   simp only[Prod.mk.injEq] at hend
   obtain⟨rfl,rfl⟩:=hend
   have HF:Hid (∀W,Below wr.heap.size wr W→∃vs',LkP w0 w L kb pb X P vs' f u1 (N+8*Sk.sst m n) W):=fun W hW=>⟨vs1,X1,vk1,(hlk1.later hW).1.more (by omega),hkl1.trans (Kl.of (hlk1.later hW).2)⟩
   have hti:=fun p w=>tellIfC 4 p w
   have HBL:=hidq hlk1.bel
   by_cases hk0:k=0
   ·subst hk0
    have hrt0:rt=0:=by
     rcases HRT.out with h | h
     ·exact h
     ·have hb:q.body=[]:=List.length_eq_zero_iff.1 (by have:=HBN.out;omega)
      rw[hb] at h
      cases h
    subst hrt0
    clear hsq hlk1 hkl1 HI
    go_wp2
    go_quiet ((go_at_call 90;exact Calls.quiet_of_same (hti _ _)))
    go_wp2
    go_end0
    exact⟨rfl,HF.out _ ⟨rfl,rfl,rfl,Nat.le_refl _,fun _ _=>rfl⟩⟩
   ·obtain⟨k',rfl⟩:∃k',k=k'+1:=⟨k - 1,by omega⟩
    have hkq:k'<q.body.length:=by have:=HBN.out;omega
    have hkcs:k'<css.length:=by have:=HBN.out;omega
    have hkd:=HROW.out.keeps (kbase HBL.out)
    have hkc0:=hkd.cell k' hkcs 0 _ (st_kind (HYK.out k' hkq hkcs))
    simp only[Nat.add_zero] at hkc0
    have hadr:=HROW.out.adr (by omega)
    have hbw:yb<wr.heap.size:=Nat.lt_of_lt_of_le (HROW.out.lt (by omega)) HBL.out.size
    obtain⟨kz,hkz⟩:∃x,x=kindS q.body[k']:=⟨_,rfl⟩
    rw[←hkz] at hkc0
    have hsub:((k'+1:Nat):Int) - 1=(k':Int):=by omega
    have hge:decide ((0:Int)≤(k':Int))=true:=by simp
    by_cases hrt0:rt=0
    ·subst hrt0
     clear hsq hlk1 hkl1 HI hkd hkz hkq hkcs
     subst hadr
     go_wp2
     go_quiet ((go_at_call 90;exact Calls.quiet_of_same (hti _ _)))
     go_wp2
     go_end0
     exact⟨rfl,HF.out _ ⟨rfl,rfl,rfl,Nat.le_refl _,fun _ _=>rfl⟩⟩
    ·have hkz8:kz=8:=by
      rcases HRT.out with h | h
      ·exact absurd h hrt0
      ·rw[List.getLast?_eq_getElem?] at h
       rw[show q.body.length - 1=k' by have:=HBN.out;omega,List.getElem?_eq_getElem hkq] at h
       rw[hkz]
       cases hs:q.body[k'] with
       | mk k p s o d l e a b=>
        rw[hs] at h
        exact Option.some.inj h
     subst hkz8
     have hrn:(rt !=0)=true:=by simpa using hrt0
     clear hsq hlk1 hkl1 HI hkd hkz hkq hkcs hrt0
     subst hadr
     go_wp2
     go_quiet ((go_at_call 90;exact Calls.quiet_of_same (hti _ _)))
     go_wp2
     go_end0
     exact⟨rfl,HF.out _ ⟨rfl,rfl,rfl,Nat.le_refl _,fun _ _=>rfl⟩⟩
end Go.Proofs.YtepkhlpjgnckkaaGreatDoor
