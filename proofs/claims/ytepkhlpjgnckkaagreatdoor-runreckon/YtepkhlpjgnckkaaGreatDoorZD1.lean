/- do: a procedure is called. And more of the same. -/
import Derived.Test.YtepkhlpjgnckkaaGreatDoorZD0
namespace Go.Proofs.YtepkhlpjgnckkaaGreatDoor
set_option maxRecDepth 100000
set_option maxHeartbeats 8000000
open Go.RowKit
open Par (Tr Stm Prm Chn Prc Prg Po ba)
theorem doC {L rb pb lb fuel lc:Nat}{P:Prg}{cv av nv qv:Value}{B:Nat→Rr.Env→Int→List Stm→Rr.Sg→Option (Rr.Env×Int×Rr.Sg)}(hB:BlC L rb pb lb fuel lc P cv av nv qv B){w:World}{deep:Nat}{ev:Value}{g g':Rr.Sg}{q:Prc}{ns:List Int}{env':Rr.Env}{back':Int}{b off:Nat}{cs:List Value}{ag:Nat}{ac:Nat}(hR:Rc w L rb pb lb fuel lc P cv av nv qv ev g)(hat:At w (fun b=>b<L) b off cs)(hpc:PcIs w (fun b=>b<L) q cs)(hd:deep<30)(hnl:ns.length=q.params.length)(hpl:q.params.length≤100)(hbl:q.body.length≤1000)
 {ao:Option Addr} (hag:0<ns.length→ao=some ⟨ag,0,none⟩∧ag<w.heap.size) (hac:∀i (h:i<ns.length),w.cell? ⟨ag,i,none⟩=some (.int .i64 ns[i])) (hq:B deep ((q.params.map (·.name)).zip ns) 0 q.body g=some (env',back',g')):
 Calls Tryz.prog 22 #[.pointer (some ⟨rb,0,none⟩),.pointer (some ⟨b,off,none⟩),.slice ao ns.length ac,.int .i64 (deep:Nat)] w fun r w'=>r=.returned (.int .i64 back')∧∃ev',RS w' L rb pb lb fuel lc ev' g'∧Kr rb lb ev ev' w w':=by
 obtain⟨pv,rl,bv,fv,yv,rfl,_,_,hpar,_,_,_,hbod⟩:=hpc
 obtain⟨css,⟨po,pbk,poff,pcap,rfl,hrow⟩,hc1,hk⟩:=hpar
 have z2:=hat.cell 2 _ rfl
 have z8:=hat.cell 8 _ rfl
 have hbw:=hat.lt
 obtain⟨m,hm⟩:∃m,m=css.length:=⟨_,rfl⟩
 rw[←hm] at z2
 have hdd:((deep:Int)==30)=false:=by simp;omega
 obtain⟨w1,hw1⟩:∃w1,w1=w.alloc (.cells #[.pointer (some ⟨rb,0,none⟩),.int .i64 (deep:Nat),.slice none 0 0,.int .i64 0] 82):=⟨_,rfl⟩
 have HI0:Hid (DoI w w1 rb deep (q.params.map (·.name)) ns 0):=⟨al1 hw1,_,_,_,_,Rf.new hw1⟩
 have HM:=hidq hm
 have HB:=hidq hB
 have HR:=hidq hR
 have HAT:=hidq hat
 have hm1:m≤100:=by omega
 clear hB hR hat hm
 go_enter Tryz.func22,Tryz.ntmps22
 go_wp2
 rw[←hw1]
 clear hw1
 go_loopw [25] (fun i wr=>∃k:Nat,k≤m∧i=.int .i64 k∧Hid (DoI w wr rb deep (q.params.map (·.name)) ns k)) (fun i _=>m - (intOf i).toNat)
 case atStart=>exact⟨0,Nat.zero_le _,rfl,HI0⟩
 case round=>
  clear HI0
  obtain⟨k,hkm,rfl,HI⟩:=hrel
  by_cases hlt:k<m
  ·obtain⟨hbel,X,vo,vc,nbs,hRf⟩:=HI.out
   have hkc:k<css.length:=by have:=HM.out;omega
   have hkp:k<q.params.length:=by omega
   have hkn:k<ns.length:=by omega
   have hzl:((q.params.map (·.name)).zip ns).length=q.params.length:=by simp[hnl]
   have hkz:k<((q.params.map (·.name)).zip ns).length:=by omega
   have htl:(((q.params.map (·.name)).zip ns).take k).length=k:=by rw[List.length_take];omega
   obtain⟨lv,hcs,_,hlv⟩:=hk k hkp hkc
   have hsz:=hbel.size
   have hrowk:=hrow.at hkc
   rw[hcs] at hrowk
   have hLw:=HR.out.sz
   have hpw:=hrowk.lt
   have p0:=(hbel.cell (p:=⟨pbk,poff+k*3+0,none⟩) hpw).trans (hrowk.cell 0 _ rfl)
   have p1:=(hbel.cell (p:=⟨pbk,poff+k*3+1,none⟩) hpw).trans (hrowk.cell 1 _ rfl)
   have p2:=(hbel.cell (p:=⟨pbk,poff+k*3+2,none⟩) hpw).trans (hrowk.cell 2 _ rfl)
   simp only[Nat.add_zero] at p0
   have hpr:pbk<wr.heap.size:=by omega
   have hpa:=hrow.adr (by omega)
   obtain⟨rfl,hagw⟩:=hag (by omega)
   have a0:=(hbel.cell (p:=⟨ag,k,none⟩) hagw).trans (hac k hkn)
   have hagr:ag<wr.heap.size:=by omega
   have v2:wr.cell? ⟨w.heap.size,2,none⟩=some (.slice vo k vc):=by have:=cl hRf.blk 2 rfl;rw[htl] at this;exact this
   have hfr:=lt_of_block hRf.blk
   have hzk:((q.params.map (·.name)).zip ns)[k]=(q.params[k].name,ns[k]):=by simp
   obtain⟨nm,hnm⟩:∃x,x=q.params[k].name:=⟨_,rfl⟩
   obtain⟨ty,hty⟩:∃x,x=q.params[k].type:=⟨_,rfl⟩
   obtain⟨n,hn⟩:∃x,x=ns[k]:=⟨_,rfl⟩
   rw[←hnm] at p0
   rw[←hty] at p1
   rw[←hn] at a0
   obtain⟨nl,hnll⟩:∃x,x=ns.length:=⟨_,rfl⟩
   rw[←hnll] at hkn⊢
   obtain⟨lo,lcp,hlvv⟩:=hlv.val
   subst hlvv
   subst hpa
   obtain⟨ll,hll⟩:∃x,x=q.params[k].lab.length:=⟨_,rfl⟩
   rw[←hll] at p2
   obtain⟨w3,hw3⟩:∃w3,w3=wr.alloc (.cells #[.string nm,.int .i64 ty,.slice lo ll lcp] 85):=⟨_,rfl⟩
   have hb3:=al1 hw3
   have HB3:=hidq hb3
   have d0:w3.cell? ⟨wr.heap.size,0,none⟩=some (.string nm):=cl (aa hw3) 0 rfl
   have hd3:=lt_of_block (aa hw3)
   have v3:=(hb3.cell (p:=⟨w.heap.size,2,none⟩) hfr).trans v2
   have a3:=(hb3.cell (p:=⟨ag,k,none⟩) hagr).trans a0
   have HNV:Hid (∀W:World,Below w3.heap.size w3 W∧W.heap.size=w3.heap.size→Calls Tryz.prog 30 #[.string nm,.int .i64 n] W fun x w'=>x=.returned (.agg ⟨varC nm w3.heap.size⟩)∧Below w3.heap.size w3 w'∧w'.heap[w3.heap.size]? =some (.cells #[.int .i64 n] 3 (0,0))):=fun W hW=>by
    have h:=newVarC nm n W
    rw[hW.2] at h
    exact h.mono fun x w' ⟨h1,h2,h3⟩=>⟨h1,hW.1.trans h2,h3⟩
   obtain⟨css2,ho1,ho2,ho3⟩:=hRf.own.ex
   have hol:(((((q.params.map (·.name)).zip ns).take k).map (·.1)).zip nbs).length=k:=by rw[List.length_zip,List.length_map,hRf.len,htl];exact Nat.min_self _
   have HO:Hid (wr.ownsRow (w.heap.size+1) 92 3 (.slice vo k vc) k css2.flatten):=by
    rw[hol,htl] at ho1
    exact ho1
   have HNX:Hid (∀(w4 w8:World) (vo':Option Addr) (vc':Nat),Below w3.heap.size w3 w4→w4.heap[w3.heap.size]? =some (.cells #[.int .i64 n] 3 (0,0))→w8.ownsRow (w.heap.size+1) 92 3 (.slice vo' (k+1) vc') (k+1) (css2.flatten++varC nm w3.heap.size)→(w4.alloc (.cells ⟨varC nm w3.heap.size⟩ 92)).grownBy w8 (.slice vo k vc:Value).ownBlock→((.slice vo' (k+1) vc':Value).ownBlock=(.slice vo k vc:Value).ownBlock∨(.slice vo' (k+1) vc':Value).ownBlock=some (w4.alloc (.cells ⟨varC nm w3.heap.size⟩ 92)).heap.size)→DoI w (w8.setCell ⟨w.heap.size,2,none⟩ (.slice vo' (k+1) vc')) rb deep (q.params.map (·.name)) ns (k+1)):=fun w4 w8 vo' vc' q1 q2 q3 q4 q5=>by
    have hb4:=bu hb3 q1
    have:=doI_next (w1:=w4.alloc (.cells ⟨varC nm w3.heap.size⟩ 92)) (w2:=w8) (vo':=vo') (vc':=vc') (nb:=w3.heap.size) hbel hRf hkz (by omega) (hb4.alloc hb4.size _) (by rw[hzk,←hn];exact heap_past_alloc q2) hb3.size ho2 ho3 (by rw[htl,hzk,←hnm];exact q3) (by rw[htl];exact q4) (by rw[htl];exact q5)
    rw[htl] at this
    exact this
   have HWW:=hidq hw3
   obtain⟨i0,hi0,hz0,hz1,hz2⟩:=info_parts Tryz.infoVr
   have HBK3:=hidq (ku hb3 hRf.blk)
   have HFV:Hid (some w.heap.size≠(.slice vo k vc:Value).ownBlock):=fun e=>by have:=(HO.out.lt _ e.symm).1;omega
   clear hbel hRf hrow hk hc1 hbod hq hac hag hrowk hcs hlv hzk hnm hty hn hnll htl hkz hzl hll hb3 HI ho1 ho2 ho3 hol
   go_upto_region 7 with fail
   rw[←hw3]
   clear hw3 HWW p0 p1 p2 v2 a0
   go_region_law (first
    |(go_simp
      go_at_call 30
      refine(HNV.out _ (by exact⟨⟨rfl,rfl,rfl,Nat.le_refl _,fun _ _=>rfl⟩,rfl⟩)).mono ?_
      rintro x w4 ⟨rfl,hb4,hbx4⟩
      have HB4:=hidq hb4
      have HX4:=hidq hbx4
      have HK4:=hidq (ku hb4 HBK3.out)
      have v4:=(hb4.cell (p:=⟨w.heap.size,2,none⟩) (Nat.lt_of_lt_of_le hfr HB3.out.size)).trans v3
      have g4:=lt_of_block HK4.out
      clear hb4 hbx4
      dsimp only)
    |(refine step_append_lies _ rfl _ _ 80 rfl (w.heap.size+1) 92 i0 (.agg #[.string ⟨#[]⟩,.nilFunc,.nilFunc]) 3 32 Tryz.underlying80 hi0 hz0 hz1 hz2 rfl (by decide) _ _ _ rfl (World.ownsRow.alloc (own_kept2 (own_kept2 HO.out fun j e=>HB3.out.block j (HO.out.lt j e).2) fun j e=>HB4.out.block j (by have:=(HO.out.lt j e).2;have:=HB3.out.size;omega)) _) ⟨w4.heap.size,0,none⟩ 1 1 (varC nm w3.heap.size) rfl rfl (new3 _ _) (by intro u hu;simp only[List.mem_cons,List.not_mem_nil,or_false] at hu;rcases hu with rfl | rfl | rfl<;>rfl) (by decide) (by unfold maxLen;omega) (by omega) (by have:=HB4.out.size;have:=HB3.out.size;simp;omega) _ rfl ?_
      intro g8 cap8 w8 hown8 hgrow8 hat8 hlt8
      have hgr:(w4.alloc (.cells ⟨varC nm w3.heap.size⟩ 92)).grownBy w8 (.slice vo k vc:Value).ownBlock:=hgrow8
      have hat:(.slice (some ⟨g8,0,none⟩) (k+1) cap8:Value).ownBlock=(.slice vo k vc:Value).ownBlock∨(.slice (some ⟨g8,0,none⟩) (k+1) cap8:Value).ownBlock=some (w4.alloc (.cells ⟨varC nm w3.heap.size⟩ 92)).heap.size:=hat8.imp (fun h=>h.symm) (fun h=>congrArg some h)
      have HFIN:=hidq (HNX.out w4 w8 (some ⟨g8,0,none⟩) cap8 HB4.out HX4.out hown8 hgr hat)
      have hX8:=(hgr.block w.heap.size (by simp;omega) HFV.out).trans (heap_past_alloc HK4.out)
      have y0:=cl hX8 2 rfl
      have y8:=fz hX8 2
      have l9:=lt_of_block hX8
      clear hown8 hgrow8 hat8 hX8 hgr hat))
   all_goals go_wp2
   all_goals go_roundw
   all_goals first
    | exact⟨k+1,by omega,by go_num,HFIN⟩
    |(simp[intOf];omega)
  ·obtain rfl:k=m:=by omega
   obtain⟨hbel,X,vo,vc,nbs,hRf⟩:=HI.out
   have hzl:((q.params.map (·.name)).zip ns).length=k:=by simp[hnl,HM.out,hc1]
   rw[List.take_of_length_le (by rw[hzl];exact Nat.le_refl _)] at hRf
   have hsz:=hbel.size
   have hrbw:=lt_of_block HR.out.rs.blk
   have hpbw:=lt_of_block HR.out.pm.blk
   have hlbw:lb<w.heap.size:=by obtain⟨C,h1,_⟩:=HR.out.rs.lef;exact lt_of_block h1
   have hLw:=HR.out.sz
   have hKr:Kr rb lb ev ev w wr:=⟨⟨hsz,fun b _ hl=>hbel.block b hl⟩,fun _ h=>.inl h,Sm.bel hbel⟩
   have hRS:RS wr L rb pb lb fuel lc ev g:=HR.out.rs.same fun b hb=>hbel.block b (by
    rcases hb with h | h | h | h
    ·omega
    ·omega
    ·omega
    ·exact(HR.out.rs.evl b h).2)
   have hAp:Ap X L rb lb pb ev:=fun b hb=>by
    have h1:=(hRf.up b hb).1
    exact⟨by omega,by omega,by omega,by omega,fun e=>by have:=(HR.out.rs.evl b e.symm).2;omega⟩
   have hkp:Keeps (fun b=>b<L) w wr:=⟨hsz,fun b hb hl=>hbel.block b hl⟩
   have hcall:=HB.out wr deep w.heap.size X vo vc nbs _ env' 0 back' ev g g' q.body yv (HR.out.next hRS hKr) hRf hAp (hbod.keeps (fun h=>h.keeps hkp) hkp) hbl hq
   have y8:=(hbel.cell (p:=⟨b,off+8,none⟩) hbw).trans z8
   have hbr:b<wr.heap.size:=by omega
   have HFIN:Hid (∀w2,FrP L rb pb lb fuel lc w.heap.size deep X ev wr env' back' g' w2→w2.cell? ⟨w.heap.size,3,none⟩=some (.int .i64 back')∧w.heap.size<w2.heap.size∧∃ev',RS w2 L rb pb lb fuel lc ev' g'∧Kr rb lb ev ev' w w2):=fun w2 ⟨X',vo',vc',nbs',ev',q1,q2,q3,q4⟩=>⟨cl q2.blk 3 rfl,lt_of_block q2.blk,ev',q1,⟨⟨Nat.le_trans hsz q4.kp.size,fun b hb hl=>(q4.kp.block b ⟨hb.1,hb.2.1,hb.2.2,fun e=>by have:=(hRf.up b e).1;omega⟩ (by omega)).trans (hbel.block b hl)⟩,fun k e=>(q4.ev k e).imp id fun h=>Nat.le_trans hsz h,(Sm.bel hbel).trans q4.sm⟩⟩
   obtain⟨yo,yc,rfl⟩:=hbod.val
   clear hbel hRf hKr hRS hAp hkp HI z2 z8 hbod hq hac hag hk hrow
   go_wp2_with fail
   refine hcall.mono ?_
   rintro x w2 ⟨rfl,hp⟩
   obtain⟨t3,tl,HE⟩:=HFIN.out w2 hp
   have HEE:=hidq HE
   clear hcall hp HE
   go_wp2
   go_ret
   exact⟨rfl,HEE.out⟩
theorem Rc.bel {w w':World}{L rb pb lb fuel lc:Nat}{P:Prg}{cv av nv qv ev:Value}{g:Rr.Sg}(h:Rc w L rb pb lb fuel lc P cv av nv qv ev g)(hb:Below w.heap.size w w'):Rc w' L rb pb lb fuel lc P cv av nv qv ev g∧Kr rb lb ev ev w w':=by
 have hk:Kr rb lb ev ev w w':=⟨⟨hb.size,fun b _ hl=>hb.block b hl⟩,fun _ h=>.inl h,Sm.bel hb⟩
 refine⟨h.next (h.rs.same fun b hb'=>hb.block b ?_) hk,hk⟩
 have h1:=lt_of_block h.rs.blk
 obtain⟨C,h2,_⟩:=h.rs.lef
 have h3:=lt_of_block h2
 have h4:=h.sz
 rcases hb' with e | e | e | e
 ·omega
 ·omega
 ·omega
 ·exact(h.rs.evl b e).2
theorem ints_of {w:World}{B:Nat}{ov:Value}{ns:List Int}(h:OwnL ElI w B 3 1 ov ns):∃ao cap gb,ov=.slice ao ns.length cap∧(0<ns.length→ao=some ⟨gb,0,none⟩∧gb<w.heap.size)∧∀i (h:i<ns.length),w.cell? ⟨gb,i,none⟩=some (.int .i64 ns[i]):=by
 obtain⟨css,h1,h2,h3⟩:=h.ex
 have hcs:css.flatten=ns.map (Value.int .i64):=by
  have e:css=ns.map fun n=>[Value.int .i64 n]:=by
   refine List.ext_getElem (by simp[h2]) fun i q1 q2=> ?_
   have:=h3 i (by rw[←h2];exact q1) q1
   unfold ElI at this
   rw[this]
   simp
  rw[e]
  clear e h1 h2 h3 h
  induction ns with
  | nil=>rfl
  | cons a l ih=>rw[List.map_cons,List.flatten_cons,ih];rfl
 rw[hcs] at h1
 rcases h1.2 with⟨h4,h5⟩|⟨gb,cap,cur,h4,_,hg,_⟩
 ·exact⟨none,0,0,by rw[h4,show ns.length=0 by omega],fun hp=>by omega,fun i hi=>by omega⟩
 ·refine⟨_,cap,gb,h4,fun _=>⟨rfl,lt_of_block hg⟩,fun i hi=> ?_⟩
  subst h4
  exact(h1.cellAt i (by simp;omega)).trans (by simp)
theorem seqV_len {V:Tr→Rr.Sg→Option (Int×Rr.Sg)}{l:List Tr}{g g':Rr.Sg}{ns:List Int}(h:Rr.seqV V l g=some (ns,g')):l.length=ns.length:=by
 induction l generalizing g ns with
 | nil=>
  unfold Rr.seqV at h
  simp only[Option.some.injEq,Prod.mk.injEq] at h
  rw[←h.1];rfl
 | cons x l ih=>
  unfold Rr.seqV at h
  obtain⟨u,_,h⟩:=Option.bind_eq_some_iff.1 h
  obtain⟨v,hv,h⟩:=Option.bind_eq_some_iff.1 h
  simp only[Option.some.injEq,Prod.mk.injEq] at h
  rw[←h.1,List.length_cons,List.length_cons,ih (ns:=v.1) (by rw[hv,←h.2])]
def ClI (w1 W:World)(L rb pb lb fuel lc:Nat)(P:Prg)(cv av nv qv ev:Value)(g:Rr.Sg)(q:Prc)(b off:Nat)(ev':Value):Prop:=
 ∃cs,Rc W L rb pb lb fuel lc P cv av nv qv ev' g∧Kr rb lb ev ev' w1 W∧At W (fun b=>b<L) b off cs∧PcIs W (fun b=>b<L) q cs
theorem value_call {L rb pb lb fuel lc:Nat}{P:Prg}{cv av nv qv:Value}{S:Rr.Sem}(hV:ValC L rb pb lb fuel lc P cv av nv qv S.val)(hB:BlC L rb pb lb fuel lc P cv av nv qv S.blk){w:World}{deep fb:Nat}{X:Nat→Prop}{vo:Option Addr}{vc:Nat}{nbs:List Nat}{env:Rr.Env}{back:Int}{ev:Value}{g g':Rr.Sg}{p c t:Int}{s:ByteArray}{l:List Po}{a:List Tr}{b off:Nat}{cs:List Value}{n:Int}
 (hR:Rc w L rb pb lb fuel lc P cv av nv qv ev g) (hF:Rf w fb rb deep X vo vc nbs env back) (hA:Ap X L rb lb pb ev) (hat:At w (fun b=>b<L) b off cs) (htr:TrIs w (fun b=>b<L) (.mk 4 p c t s l a) cs) (hq:Rr.valF P fuel S deep env (.mk 4 p c t s l a) g=some (n,g')):
 Calls Tryz.prog 92 #[.pointer (some ⟨fb,0,none⟩),.pointer (some ⟨b,off,none⟩)] w fun r w'=>r=.returned (.int .i64 n)∧∃ev',RS w' L rb pb lb fuel lc ev' g'∧Kr rb lb ev ev' w w':=by
 unfold Rr.valF at hq
 obtain⟨g1,hs,hq⟩:=Option.bind_eq_some_iff.1 hq
 obtain⟨hlt,rfl⟩:=step_some hs
 have hq':((Rr.findP P.procs s).bind fun q=>(Rr.seqV (S.val deep env) a ({g with steps:=g.steps+1}:Rr.Sg)).bind fun u=>
  if deep+1<30∧u.1.length=q.params.length∧q.params.length≤100∧q.body.length≤1000 then(S.blk (deep+1) ((q.params.map (·.name)).zip u.1) 0 q.body u.2).map fun r=>(r.2.1,r.2.2) else none)=some (n,g'):=hq
 obtain⟨q,hfq,hq2⟩:=Option.bind_eq_some_iff.1 hq'
 obtain⟨⟨us,g2⟩,hsq,hq3⟩:=Option.bind_eq_some_iff.1 hq2
 split at hq3
 case isFalse=>cases hq3
 rename_i hcond
 dsimp only at hcond hq3
 obtain⟨hdp,hul,hpl,hbl⟩:=hcond
 obtain⟨un,hun⟩:∃u,u=us.length:=⟨_,rfl⟩
 obtain⟨⟨eb,bk,g3⟩,hblk,hq4⟩:=Option.map_eq_some_iff.1 hq3
 simp only[Prod.mk.injEq] at hq4
 obtain⟨rfl,rfl⟩:=hq4
 have hal:a.length=us.length:=seqV_len hsq
 cases htr with
 | mk hsz hl hr hc hk=>
  rename_i lv xv css
  obtain⟨xo,xb,xoff,xc,rfl,hrow⟩:=hr
  obtain⟨m0,hm0⟩:∃m,m=css.length:=⟨_,rfl⟩
  rw[←hm0] at hat
  have hst:=stepC hR.rs hlt
  have f0:w.cell? ⟨fb,0,none⟩=some (.pointer (some ⟨rb,0,none⟩)):=cl hF.blk 0 rfl
  have hfl:=lt_of_block hF.blk
  have HNX:Hid (∀w1,RS w1 L rb pb lb fuel lc ev {g with steps:=g.steps+1}→Kr rb lb ev ev w w1→Rc w1 L rb pb lb fuel lc P cv av nv qv ev {g with steps:=g.steps+1}):=fun w1 q1 q2=>hR.next q1 q2
  have HCE:Hid (∀W ev',Kr rb lb ev ev' w W→W.cell? ⟨fb,0,none⟩=some (.pointer (some ⟨rb,0,none⟩))∧W.cell? ⟨fb,1,none⟩=some (.int .i64 (deep:Nat))∧W.cell? ⟨b,off+4,none⟩=some (.string s)∧W.cell? ⟨b,off+6,none⟩=some (.slice xo m0 xc)∧W.cell? ⟨b,off,none⟩=some (.int .i64 4)∧fb<W.heap.size∧b<W.heap.size):=fun W ev' q2=>by
   have h1:=hat.next hR.rs.rl hR.rs.ll (fun k e=>(hR.rs.evl k e).1) q2
   have h2:=(hF.next hA q2).blk
   exact⟨cl h2 0 rfl,cl h2 1 rfl,h1.cell 4 _ rfl,h1.cell 6 _ rfl,h1.cell 0 _ rfl,lt_of_block h2,h1.lt⟩
  have HP:Hid (∀w1 W,Rc w1 L rb pb lb fuel lc P cv av nv qv ev {g with steps:=g.steps+1}→Kr rb lb ev ev w w1→Below w1.heap.size w1 W→Calls Tryz.prog 23 #[.pointer (some ⟨rb,0,none⟩),.string s] W fun x w'=>∃pb' poff,x=.returned (.pointer (some ⟨pb',poff,none⟩))∧Hid (ClI w w' L rb pb lb fuel lc P cv av nv qv ev {g with steps:=g.steps+1} q pb' poff ev)):=fun w1 W q1 q2 q3=>by
   have h1:=q1.bel q3
   refine(rprocC h1.1.rs h1.1.pm hfq).mono ?_
   rintro x w' ⟨pb',poff,cs',rfl,h2,h3,h4⟩
   have h5:=h1.1.bel h4
   have hkp:Keeps (fun b=>b<L) W w':=⟨h4.size,fun b hb _=>h4.block b (Nat.lt_of_lt_of_le hb h1.1.sz)⟩
   exact⟨pb',poff,rfl,cs',h5.1,q2.trans (h1.2.trans h5.2),h2.keeps hkp,isElPc.keeps h3 hkp⟩
  have HVA:Hid (∀W W' pb' poff,ClI w W L rb pb lb fuel lc P cv av nv qv ev {g with steps:=g.steps+1} q pb' poff ev→Below W.heap.size W W'→Calls Tryz.prog 129 #[.pointer (some ⟨fb,0,none⟩),.slice xo m0 xc] W' fun r w'=>∃ao ac gb,r=.returned (.slice ao un ac)∧Hid (∃ev',ClI w w' L rb pb lb fuel lc P cv av nv qv ev g2 q pb' poff ev'∧(0<us.length→ao=some ⟨gb,0,none⟩∧gb<w'.heap.size)∧∀i (h:i<us.length),w'.cell? ⟨gb,i,none⟩=some (.int .i64 us[i]))):=fun W W' pb' poff ⟨cs',q1,q2,q3,q4⟩ q5=>by
   have h1:=q1.bel q5
   have hk1:=q2.trans h1.2
   have hlow:∀b,b<L→b<w.heap.size→W'.heap[b]? =w.heap[b]? :=fun b hb hl=>hk1.low hR.rs.rl hR.rs.ll (fun k e=>(hR.rs.evl k e).1) hb hl
   have hrow':=hrow.keeps (w':=W') ⟨hk1.kp.size,fun b hb hl=>hlow b hb hl⟩
   have:=valuesC hV h1.1 (hF.next hA hk1) (hA.next (fun b hb=>(hF.up b hb).2) hk1) hrow' hc (fun i h h'=>(hk i h h').keeps ⟨hk1.kp.size,fun b hb hl=>hlow b hb hl⟩) (by omega) hsq
   rw[←hm0] at this
   refine this.mono ?_
   rintro r w' ⟨ov,rfl,ho,ev',h2,h3⟩
   obtain⟨ao,ac,gb,rfl,h4,h5⟩:=ints_of ho
   have hkp:Keeps (fun b=>b<L) W w':=⟨Nat.le_trans q5.size h3.kp.size,fun b hb hl=>(h3.low h1.1.rs.rl h1.1.rs.ll (fun k e=>(h1.1.rs.evl k e).1) hb (Nat.lt_of_lt_of_le hl q5.size)).trans (q5.block b hl)⟩
   exact⟨ao,ac,gb,by rw[hun],ev',⟨cs',h1.1.next h2 h3,hk1.trans h3,q3.keeps hkp,isElPc.keeps q4 hkp⟩,h4,h5⟩
  have HDO:Hid (∀W W' pb' poff ev' ao ac gb,ClI w W L rb pb lb fuel lc P cv av nv qv ev g2 q pb' poff ev'→Below W.heap.size W W'→(0<us.length→ao=some ⟨gb,0,none⟩∧gb<W.heap.size)→(∀i (h:i<us.length),W.cell? ⟨gb,i,none⟩=some (.int .i64 us[i]))→Calls Tryz.prog 22 #[.pointer (some ⟨rb,0,none⟩),.pointer (some ⟨pb',poff,none⟩),.slice ao un ac,.int .i64 ((deep+1:Nat):Int)] W' fun r w'=>r=.returned (.int .i64 bk)∧Hid (∃ev',RS w' L rb pb lb fuel lc ev' g3∧Kr rb lb ev ev' w w')):=fun W W' pb' poff ev' ao ac gb ⟨cs',q1,q2,q3,q4⟩ q5 q6 q7=>by
   have h1:=q1.bel q5
   have hkp:Keeps (fun b=>b<L) W W':=⟨q5.size,fun b hb hl=>q5.block b hl⟩
   rw[hun]
   refine(doC hB h1.1 (q3.keeps hkp) (isElPc.keeps q4 hkp) hdp hul hpl hbl (ag:=gb) (fun h=>⟨(q6 h).1,Nat.lt_of_lt_of_le (q6 h).2 q5.size⟩) (fun i hi=>(q5.cell (p:=⟨gb,i,none⟩) (q6 (by omega)).2).trans (q7 i hi)) hblk).mono ?_
   rintro r w' ⟨rfl,ev2,h2,h3⟩
   exact⟨rfl,ev2,h2,q2.trans (h1.2.trans h3)⟩
  have hwr:IntKind.i64.wrap ((deep:Int)+1)=((deep+1:Nat):Int):=by rw[IntKind.wrap_i64];omega
  clear hq hq' hq2 hq3 hs hR hF hA hat hrow hl hc hk hfq hsq hblk hV hB hul hpl hbl hm0 hal hun
  go_enter Tryz.func92,Tryz.ntmps92
  go_wp2_with fail
  refine hst.mono ?_
  rintro x w1 ⟨rfl,hr1,hk1⟩
  have HR1:=hidq (HNX.out w1 hr1 hk1)
  have HK1:=hidq hk1
  obtain⟨e0,e1,e4,e6,ek,el,eb'⟩:=HCE.out w1 ev hk1
  clear hr1 hk1 hst f0 hfl
  go_upto_region 8 with fail
  go_region_held3 (fun W=>W.cell? ⟨fb,0,none⟩=some (.pointer (some ⟨rb,0,none⟩))∧W.cell? ⟨fb,1,none⟩=some (.int .i64 (deep:Nat))∧W.cell? ⟨b,off+4,none⟩=some (.string s)∧W.cell? ⟨b,off+6,none⟩=some (.slice xo m0 xc)) (go_keep)
   (first
     |(go_at_call 23;refine(HP.out w1 _ HR1.out HK1.out (by exact⟨rfl,rfl,rfl,Nat.le_refl _,fun _ _=>rfl⟩)).mono ?_;rintro x w2 ⟨pb',poff,rfl,H2⟩;obtain⟨d0,d1,d4,d6,_,dl,db⟩:=HCE.out w2 ev (by obtain⟨cs',h1,h2,_⟩:=H2.out;exact h2))
     |(go_at_call 129;refine(HVA.out w2 _ pb' poff H2.out (by exact⟨rfl,rfl,rfl,Nat.le_refl _,fun _ _=>rfl⟩)).mono ?_;rintro x w3 ⟨ao,ac,gb,rfl,H3⟩;obtain⟨i0,i1,i4,i6,_,il,ib⟩:w3.cell? ⟨fb,0,none⟩=some (.pointer (some ⟨rb,0,none⟩))∧w3.cell? ⟨fb,1,none⟩=some (.int .i64 (deep:Nat))∧w3.cell? ⟨b,off+4,none⟩=some (.string s)∧w3.cell? ⟨b,off+6,none⟩=some (.slice xo m0 xc)∧w3.cell? ⟨b,off,none⟩=some (.int .i64 4)∧fb<w3.heap.size∧b<w3.heap.size:=(by obtain⟨ev',⟨cs',h1,h2,_⟩,_⟩:=H3.out;exact HCE.out w3 ev' h2))
     |(go_at_call 22;refine(show Calls _ _ _ _ (fun r w'=>r=.returned (.int .i64 bk)∧Hid (∃ev',RS w' L rb pb lb fuel lc ev' g3∧Kr rb lb ev ev' w w')) from(by obtain⟨ev',h1,h2,h3⟩:=H3.out;exact HDO.out w3 _ pb' poff ev' ao ac gb h1 (by exact⟨rfl,rfl,rfl,Nat.le_refl _,fun _ _=>rfl⟩) h2 h3)).mono ?_;rintro x w4 ⟨rfl,H4⟩;obtain⟨j0,j1,j4,j6,_,jl,jb⟩:w4.cell? ⟨fb,0,none⟩=some (.pointer (some ⟨rb,0,none⟩))∧w4.cell? ⟨fb,1,none⟩=some (.int .i64 (deep:Nat))∧w4.cell? ⟨b,off+4,none⟩=some (.string s)∧w4.cell? ⟨b,off+6,none⟩=some (.slice xo m0 xc)∧w4.cell? ⟨b,off,none⟩=some (.int .i64 4)∧fb<w4.heap.size∧b<w4.heap.size:=(by obtain⟨ev',h1,h2⟩:=H4.out;exact HCE.out w4 ev' h2)))
  go_wp2
  go_ret
  exact⟨rfl,H4.out⟩
theorem valE {L rb pb lb fuel lc:Nat}{P:Prg}{cv av nv qv:Value}{V:Nat→Rr.Env→Tr→Rr.Sg→Option (Int×Rr.Sg)}(hV:ValC L rb pb lb fuel lc P cv av nv qv V){w:World}{deep fb:Nat}{X:Nat→Prop}{vo:Option Addr}{vc:Nat}{nbs:List Nat}{env:Rr.Env}{back:Int}{ev:Value}{g0 g1 g2:Rr.Sg}{k p:Int}{s o:ByteArray}{d:Bool}{l:List Po}{e:Tr}{a b2:List Stm}{b off:Nat}{cs:List Value}{n:Int}
 (hR:Rc w L rb pb lb fuel lc P cv av nv qv ev g0) (hF:Rf w fb rb deep X vo vc nbs env back) (hA:Ap X L rb lb pb ev) (hat:At w (fun b=>b<L) b off cs) (hst:StIs w (fun b=>b<L) (.mk k p s o d l e a b2) cs) (hv:V deep env e g1=some (n,g2)):
 ∀(W W':World) (ev1:Value),Rc W L rb pb lb fuel lc P cv av nv qv ev1 g1→Kr rb lb ev ev1 w W→Below W.heap.size W W'→Calls Tryz.prog 92 #[.pointer (some ⟨fb,0,none⟩),.pointer (some ⟨b,off+6,none⟩)] W' fun r w'=>r=.returned (.int .i64 n)∧Hid (∃ev',Rc w' L rb pb lb fuel lc P cv av nv qv ev' g2∧Kr rb lb ev ev' w w'):=by
 intro W W' ev1 q1 q2 q3
 have h1:=q1.bel q3
 have hk1:=q2.trans h1.2
 obtain⟨lv,ce,av',bv',rfl,_,_,_,hte,_,_⟩:=hst.rows
 have hlow:Keeps (fun b=>b<L) w W':=⟨hk1.kp.size,fun b hb hl=>hk1.low hR.rs.rl hR.rs.ll (fun k e=>(hR.rs.evl k e).1) hb hl⟩
 refine(hV W' deep fb X vo vc nbs env back ev1 g1 g2 e b (off+6) ce n h1.1 (hF.next hA hk1) (hA.next (fun b hb=>(hF.up b hb).2) hk1) (At.keeps (At.part hat) hlow) (hte.keeps hlow) hv).mono ?_
 rintro r w' ⟨rfl,ev',h2,h3⟩
 exact⟨rfl,ev',h1.1.next h2 h3,hk1.trans h3⟩
theorem cellsS {L rb pb lb fuel lc:Nat}{P:Prg}{cv av nv qv:Value}{w:World}{deep fb:Nat}{X:Nat→Prop}{vo:Option Addr}{vc:Nat}{nbs:List Nat}{env:Rr.Env}{back:Int}{ev:Value}{g0:Rr.Sg}{k p:Int}{s o:ByteArray}{d:Bool}{l:List Po}{e:Tr}{a b2:List Stm}{b off:Nat}{cs:List Value}
 (hR:Rc w L rb pb lb fuel lc P cv av nv qv ev g0) (hF:Rf w fb rb deep X vo vc nbs env back) (hA:Ap X L rb lb pb ev) (hat:At w (fun b=>b<L) b off cs) (hst:StIs w (fun b=>b<L) (.mk k p s o d l e a b2) cs) (n:Nat) (hn:n=env.length):
 ∀(W:World) (ev':Value),Kr rb lb ev ev' w W→W.cell? ⟨fb,0,none⟩=some (.pointer (some ⟨rb,0,none⟩))∧W.cell? ⟨fb,2,none⟩=some (.slice vo n vc)∧W.cell? ⟨b,off,none⟩=some (.int .i64 k)∧W.cell? ⟨b,off+2,none⟩=some (.string s)∧W.cell? ⟨b,off+3,none⟩=some (.string o)∧fb<W.heap.size∧b<W.heap.size∧(∀i,W.frozen? ⟨fb,i,none⟩=false):=by
 intro W ev' q2
 obtain⟨lv,ce,av',bv',rfl,_⟩:=hst.rows
 have h1:=hat.next hR.rs.rl hR.rs.ll (fun k e=>(hR.rs.evl k e).1) q2
 have h2:=(hF.next hA q2).blk
 exact⟨cl h2 0 rfl,by rw[hn];exact cl h2 2 rfl,h1.cell 0 _ rfl,h1.cell 2 _ rfl,h1.cell 3 _ rfl,lt_of_block h2,h1.lt,fun i=>fz h2 i⟩
theorem stepS {L rb pb lb fuel lc:Nat}{P:Prg}{cv av nv qv:Value}{w:World}{ev:Value}{g:Rr.Sg}(hR:Rc w L rb pb lb fuel lc P cv av nv qv ev g)(hlt:g.steps<fuel):Calls Tryz.prog 91 #[.pointer (some ⟨rb,0,none⟩)] w fun x w'=>x=.returned (.tuple #[])∧Hid (Rc w' L rb pb lb fuel lc P cv av nv qv ev {g with steps:=g.steps+1}∧Kr rb lb ev ev w w'):=
 (stepC hR.rs hlt).mono fun _ _ ⟨h1,h2,h3⟩=>⟨h1,hR.next h2 h3,h3⟩
theorem RS.frame {w w':World}{L rb pb lb fuel lc:Nat}{ev:Value}{g:Rr.Sg}{X:Nat→Prop}(h:RS w L rb pb lb fuel lc ev g)(hA:Ap X L rb lb pb ev)(hL:L≤w.heap.size)(hk:∀b,b<w.heap.size→¬X b→w'.heap[b]? =w.heap[b]?):RS w' L rb pb lb fuel lc ev g:=by
 refine h.same fun b hb=> ?_
 have h1:=lt_of_block h.blk
 obtain⟨C,h2,_⟩:=h.lef
 have h3:=lt_of_block h2
 rcases hb with e | e | e | e
 ·exact hk b (by omega) fun hx=>by have:=(hA b hx).1;omega
 ·exact hk b (by omega) fun hx=>(hA b hx).2.1 e
 ·exact hk b (by omega) fun hx=>(hA b hx).2.2.1 e
 ·exact hk b (h.evl b e).2 fun hx=>(hA b hx).2.2.2.2 e.symm
theorem letEnd {L rb pb lb fuel lc:Nat}{P:Prg}{cv av nv qv:Value}{w w2 w5 w8:World}{deep fb:Nat}{X:Nat→Prop}{vo vo':Option Addr}{vc vc':Nat}{nbs:List Nat}{env:Rr.Env}{back:Int}{ev ev2:Value}{g2:Rr.Sg}{s:ByteArray}{n:Int}{nb:Nat}{css:List (List Value)}
 (hR:Rc w2 L rb pb lb fuel lc P cv av nv qv ev2 g2) (hk:Kr rb lb ev ev2 w w2) (hF:Rf w2 fb rb deep X vo vc nbs env back) (hA:Ap X L rb lb pb ev2) (hf:env.length<999) (hb:Below w2.heap.size w2 w5) (hnb:w5.heap[nb]? =some (.cells #[.int .i64 n] 3 (0,0))) (hnw:w2.heap.size≤nb) (hcl:css.length=((env.map (·.1)).zip nbs).length) (h3:∀i (h:i<((env.map (·.1)).zip nbs).length) (h':i<css.length),VrIs w2 (SB (fb+1) (.slice vo env.length vc)) ((env.map (·.1)).zip nbs)[i] css[i])
 (h2:w8.ownsRow (fb+1) 92 3 (.slice vo' (env.length+1) vc') (env.length+1) (css.flatten++varC s nb)) (hg:w5.grownBy w8 (.slice vo env.length vc:Value).ownBlock) (hv:(.slice vo' (env.length+1) vc':Value).ownBlock=(.slice vo env.length vc:Value).ownBlock∨(.slice vo' (env.length+1) vc':Value).ownBlock=some w5.heap.size):
 FrP L rb pb lb fuel lc fb deep X ev w (env++[(s,n)]) back g2 (w8.setCell ⟨fb,2,none⟩ (.slice vo' (env.length+1) vc')):=by
 have hz5:=hb.size
 have hz8:=hg.size
 have hstay:∀b,b<w2.heap.size→¬X b→(w8.setCell ⟨fb,2,none⟩ (.slice vo' (env.length+1) vc')).heap[b]? =w2.heap[b]? :=fun b hb1 hx=>(Below.heap_setCell _ _ _ _ (fun e=>hx (by rw[show b=fb from e];exact hF.xf))).trans ((hg.block b (by omega) (fun e=>hx (hF.xo b e.symm))).trans (hb.block b hb1))
 have hrs:=hR.rs.frame hA hR.sz hstay
 have h1:=lt_of_block hR.rs.blk
 obtain⟨C,h4,_⟩:=hR.rs.lef
 have h5:=lt_of_block h4
 have h6:=lt_of_block hR.pm.blk
 have h7:=hR.sz
 refine⟨_,vo',vc',nbs++[nb],ev2,hrs,hF.add (by omega) hb hnb hnw hcl h3 h2 hg hv,fun b hb'=> ?_,⟨⟨?_,fun b hb1 hl=> ?_⟩,hk.ev,fun b hb'=> ?_,hk.sm.trans ((Sm.bel hb).trans ((Sm.gro hg).trans (Sm.set _ _ _)))⟩⟩
 ·rcases hb' with e |⟨e,_⟩
  ·exact hA b e
  ·exact⟨by omega,by omega,by omega,by omega,fun e'=>by have:=(hR.rs.evl b e'.symm).2;omega⟩
 ·simp[World.setCell]
  have:=hk.kp.size
  omega
 ·have hsz:=hk.kp.size
  exact(hstay b (by omega) hb1.2.2.2).trans (hk.kp.block b ⟨hb1.1,hb1.2.1,hb1.2.2.1⟩ hl)
 ·rcases hb' with e |⟨e,_⟩
  ·exact .inl e
  ·have:=hk.kp.size
   exact .inr (by omega)
theorem frCells {L rb pb lb fuel lc:Nat}{P:Prg}{cv av nv qv:Value}{w W:World}{deep fb:Nat}{X:Nat→Prop}{env':Rr.Env}{back':Int}{ev:Value}{g g':Rr.Sg}{k p:Int}{s o:ByteArray}{d:Bool}{l:List Po}{e:Tr}{a b2:List Stm}{b off:Nat}{cs:List Value}
 (hR:Rc w L rb pb lb fuel lc P cv av nv qv ev g) (hA:Ap X L rb lb pb ev) (hat:At w (fun b=>b<L) b off cs) (hst:StIs w (fun b=>b<L) (.mk k p s o d l e a b2) cs) (h:FrP L rb pb lb fuel lc fb deep X ev w env' back' g' W):W.cell? ⟨fb,0,none⟩=some (.pointer (some ⟨rb,0,none⟩))∧W.cell? ⟨b,off+2,none⟩=some (.string s)∧W.cell? ⟨b,off+3,none⟩=some (.string o):=by
 obtain⟨X',vo',vc',nbs',ev',h1,h2,h3,h4⟩:=h
 obtain⟨lv,ce,av',bv',rfl,_⟩:=hst.rows
 have hk:Keeps (fun b=>b<L) w W:=⟨h4.kp.size,fun b hb hl=>h4.kp.block b ⟨by have:=hR.rs.rl;omega,by have:=hR.rs.ll;omega,fun e=>by have:=(hR.rs.evl b e.symm).1;omega,fun e=>by have:=(hA b e).1;omega⟩ hl⟩
 have h5:=hat.keeps hk
 exact⟨cl h2.blk 0 rfl,h5.cell 2 _ rfl,h5.cell 3 _ rfl⟩
theorem setEnd {L rb pb lb fuel lc:Nat}{P:Prg}{cv av nv qv:Value}{w W:World}{deep fb:Nat}{X:Nat→Prop}{vo:Option Addr}{vc:Nat}{nbs:List Nat}{env:Rr.Env}{back:Int}{ev ev2:Value}{g2:Rr.Sg}{n:Int}
 (hR:Rc W L rb pb lb fuel lc P cv av nv qv ev2 g2) (hk:Kr rb lb ev ev2 w W) (hF:Rf w fb rb deep X vo vc nbs env back) (hA:Ap X L rb lb pb ev) {i:Nat} (hi:i<env.length) (hi':i<nbs.length):
 FrP L rb pb lb fuel lc fb deep X ev w (env.set i (env[i].1,n)) back g2 (W.setCell ⟨nbs[i],0,none⟩ (.int .i64 n))∧W.heap[nbs[i]]? =some (.cells #[.int .i64 env[i].2] 3 (0,0)):=by
 have hF2:=hF.next hA hk
 have hA2:=hA.next (fun b hb=>(hF.up b hb).2) hk
 have hx:=(hF.nb _ (List.getElem_mem hi')).1
 have hstay:∀b,b<W.heap.size→¬X b→(W.setCell ⟨nbs[i],0,none⟩ (.int .i64 n)).heap[b]? =W.heap[b]? :=fun b _ hx'=>Below.heap_setCell _ _ _ _ (fun e=>hx' (by rw[show b=nbs[i] from e];exact hx))
 refine⟨⟨X,vo,vc,nbs,ev2,hR.rs.frame hA2 hR.sz hstay,hF2.put hi hi' n,hA2,⟨⟨?_,fun b hb hl=> ?_⟩,hk.ev,fun b hb=>.inl hb,hk.sm.trans (Sm.set _ _ _)⟩⟩,hF2.box i hi hi'⟩
 ·simp[World.setCell]
  exact hk.kp.size
 ·have hsz:=hk.kp.size
  exact(hstay b (by omega) hb.2.2.2).trans (hk.kp.block b ⟨hb.1,hb.2.1,hb.2.2.1⟩ hl)
theorem finE {L rb pb lb fuel lc:Nat}{P:Prg}{cv av nv qv:Value}{w:World}{deep fb:Nat}{X:Nat→Prop}{vo:Option Addr}{vc:Nat}{nbs:List Nat}{env:Rr.Env}{back:Int}{ev:Value}{s:ByteArray}(hF:Rf w fb rb deep X vo vc nbs env back)(hA:Ap X L rb lb pb ev){i:Nat}(hi:i<env.length)(hs:env[i].1=s)(hj:∀j (hj:j<i),env[j].1≠s){nb:Nat}(hnb:nb=nbs[i]'(by rw[hF.len];exact hi)):
 ∀(W W':World) (ev1:Value) (g1:Rr.Sg),Rc W L rb pb lb fuel lc P cv av nv qv ev1 g1→Kr rb lb ev ev1 w W→Below W.heap.size W W'→Calls Tryz.prog 93 #[.pointer (some ⟨fb,0,none⟩),.string s] W' fun x w'=>x=.returned (.agg #[.string s,.func (.func 54) #[] #[.pointer (some ⟨nb,0,none⟩)],.func (.func 55) #[] #[.pointer (some ⟨nb,0,none⟩)]])∧Hid (Rc w' L rb pb lb fuel lc P cv av nv qv ev1 g1∧Kr rb lb ev ev1 w w'):=by
 intro W W' ev1 g1 q1 q2 q3
 have h1:=q1.bel q3
 have hk1:=q2.trans h1.2
 have:=findC (hF.next hA hk1) hi hs hj
 rw[←hnb] at this
 refine this.mono ?_
 rintro x w' ⟨rfl,hb⟩
 have h2:=h1.1.bel hb
 exact⟨rfl,h2.1,hk1.trans h2.2⟩
theorem stmt_set {L rb pb lb fuel lc:Nat}{P:Prg}{cv av nv qv:Value}{S:Rr.Sem}(hV:ValC L rb pb lb fuel lc P cv av nv qv S.val){w:World}{deep fb:Nat}{X:Nat→Prop}{vo:Option Addr}{vc:Nat}{nbs:List Nat}{env env':Rr.Env}{back back':Int}{ev:Value}{g g':Rr.Sg}{p:Int}{s o:ByteArray}{d:Bool}{l:List Po}{e:Tr}{a b2:List Stm}{b off:Nat}{cs:List Value}
 (hR:Rc w L rb pb lb fuel lc P cv av nv qv ev g) (hF:Rf w fb rb deep X vo vc nbs env back) (hA:Ap X L rb lb pb ev) (hat:At w (fun b=>b<L) b off cs) (hst:StIs w (fun b=>b<L) (.mk 2 p s o d l e a b2) cs) (hq:Rr.stmF P fuel S deep env back (.mk 2 p s o d l e a b2) g=some (env',back',g')):
 Calls Tryz.prog 56 #[.pointer (some ⟨fb,0,none⟩),.pointer (some ⟨b,off,none⟩)] w fun r w'=>r=.returned (.tuple #[])∧FrP L rb pb lb fuel lc fb deep X ev w env' back' g' w':=by
 unfold Rr.stmF at hq
 obtain⟨g1,hs,hq⟩:=Option.bind_eq_some_iff.1 hq
 obtain⟨hlt,rfl⟩:=step_some hs
 have hq':((S.val deep env e ({g with steps:=g.steps+1}:Rr.Sg)).bind fun u=>(Rr.putE env s u.1).map (·,back,u.2))=some (env',back',g'):=hq
 obtain⟨⟨n,g2⟩,hv,hq2⟩:=Option.bind_eq_some_iff.1 hq'
 obtain⟨env2,hpe,hq3⟩:=Option.map_eq_some_iff.1 hq2
 simp only[Prod.mk.injEq] at hq3
 obtain⟨rfl,rfl,rfl⟩:=hq3
 obtain⟨i,hi,h1,rfl,h3⟩:=putE_first hpe
 have hi':i<nbs.length:=by rw[hF.len];exact hi
 obtain⟨nb,hnb⟩:∃x,x=nbs[i]:=⟨_,rfl⟩
 have HV:=hidq (valE hV hR hF hA hat hst hv)
 have HC:=hidq (cellsS hR hF hA hat hst _ rfl)
 have HFI:=hidq (finE (L:=L) (pb:=pb) (fuel:=fuel) (lc:=lc) (P:=P) (cv:=cv) (av:=av) (nv:=nv) (qv:=qv) hF hA hi h1 h3 hnb)
 have HEND:Hid (∀(W:World) (ev2:Value),Rc W L rb pb lb fuel lc P cv av nv qv ev2 g2→Kr rb lb ev ev2 w W→FrP L rb pb lb fuel lc fb deep X ev w (env.set i (env[i].1,n)) back g2 (W.setCell ⟨nb,0,none⟩ (.int .i64 n))∧W.heap[nb]? =some (.cells #[.int .i64 env[i].2] 3 (0,0))):=fun W ev2 q1 q2=>by
  rw[hnb]
  exact setEnd q1 q2 hF hA hi hi'
 have HPU:Hid (∀(w3 W:World),(∃ev',Rc w3 L rb pb lb fuel lc P cv av nv qv ev' g2∧Kr rb lb ev ev' w w3)→Below w3.heap.size w3 W→Calls Tryz.prog 55 #[.int .i64 n,.pointer (some ⟨nb,0,none⟩)] W fun x w'=>x=.returned (.tuple #[])∧Hid (FrP L rb pb lb fuel lc fb deep X ev w (env.set i (env[i].1,n)) back g2 w')):=fun w3 W ⟨ev',q1,q2⟩ q3=>by
  have r1:=q1.bel q3
  obtain⟨r2,r3⟩:=HEND.out W ev' r1.1 (q2.trans r1.2)
  refine(putV n r3).mono ?_
  rintro x w' ⟨rfl,rfl⟩
  exact⟨rfl,r2⟩
 have hst1:=stepS hR hlt
 obtain⟨f0,_,c0,c2,_,hfl,hbl,_⟩:=HC.out w ev (Kr.refl _ _ _ _)
 have ff:=fVr2
 have HFC:Hid (∀W,FrP L rb pb lb fuel lc fb deep X ev w (env.set i (env[i].1,n)) back g2 W→_∧_∧_):=fun W h=>frCells hR hA hat hst h
 clear hq hq' hs hR hF hA hat hst hv hV hpe h1 h3 hnb HEND hi'
 go_enter Tryz.func56,Tryz.ntmps56
 go_wp2_with fail
 refine hst1.mono ?_
 rintro x w1 ⟨rfl,H1⟩
 obtain⟨e0,e2,d0,d2,_,el,dl,_⟩:=HC.out w1 ev H1.out.2
 clear hst1 f0 c0 c2 hfl hbl
 go_upto_region 5 with fail
 go_region_held3 (fun W=>W.cell? ⟨b,off+2,none⟩=some (.string s)) (go_keep)
  (first
    |(go_at_call 93;refine(HFI.out w1 _ ev _ H1.out.1 H1.out.2 (by exact⟨rfl,rfl,rfl,Nat.le_refl _,fun _ _=>rfl⟩)).mono ?_;rintro x w2 ⟨rfl,H2⟩;obtain⟨_,_,_,d22,_,el2,dl2,_⟩:=HC.out w2 ev H2.out.2)
    |(go_at_call 92;refine(HV.out w2 _ ev H2.out.1 H2.out.2 (by exact⟨rfl,rfl,rfl,Nat.le_refl _,fun _ _=>rfl⟩)).mono ?_;rintro x w3 ⟨rfl,H3⟩;obtain⟨d23,el3,dl3⟩:w3.cell? ⟨b,off+2,none⟩=some (.string s)∧fb<w3.heap.size∧b<w3.heap.size:=(by obtain⟨ev',h1,h2⟩:=H3.out;obtain⟨_,_,_,a4,_,a5,a6,_⟩:=HC.out w3 ev' h2;exact⟨a4,a5,a6⟩))
    |(go_at_call 55;refine(HPU.out w3 _ H3.out (by exact⟨rfl,rfl,rfl,Nat.le_refl _,fun _ _=>rfl⟩)).mono ?_;rintro x w4 ⟨rfl,H4⟩;obtain⟨_,d24,_⟩:=HFC.out w4 H4.out))
 go_wp2
 go_end0
 exact⟨rfl,H4.out⟩
theorem stmt_ret {L rb pb lb fuel lc:Nat}{P:Prg}{cv av nv qv:Value}{S:Rr.Sem}(hV:ValC L rb pb lb fuel lc P cv av nv qv S.val){w:World}{deep fb:Nat}{X:Nat→Prop}{vo:Option Addr}{vc:Nat}{nbs:List Nat}{env env':Rr.Env}{back back':Int}{ev:Value}{g g':Rr.Sg}{p:Int}{s o:ByteArray}{d:Bool}{l:List Po}{e:Tr}{a b2:List Stm}{b off:Nat}{cs:List Value}
 (hR:Rc w L rb pb lb fuel lc P cv av nv qv ev g) (hF:Rf w fb rb deep X vo vc nbs env back) (hA:Ap X L rb lb pb ev) (hat:At w (fun b=>b<L) b off cs) (hst:StIs w (fun b=>b<L) (.mk 8 p s o d l e a b2) cs) (hq:Rr.stmF P fuel S deep env back (.mk 8 p s o d l e a b2) g=some (env',back',g')):
 Calls Tryz.prog 56 #[.pointer (some ⟨fb,0,none⟩),.pointer (some ⟨b,off,none⟩)] w fun r w'=>r=.returned (.tuple #[])∧FrP L rb pb lb fuel lc fb deep X ev w env' back' g' w':=by
 unfold Rr.stmF at hq
 obtain⟨g1,hs,hq⟩:=Option.bind_eq_some_iff.1 hq
 obtain⟨hlt,rfl⟩:=step_some hs
 have hq':((S.val deep env e ({g with steps:=g.steps+1}:Rr.Sg)).map fun u=>(env,u.1,u.2))=some (env',back',g'):=hq
 obtain⟨⟨n,g2⟩,hv,hq3⟩:=Option.map_eq_some_iff.1 hq'
 simp only[Prod.mk.injEq] at hq3
 obtain⟨rfl,rfl,rfl⟩:=hq3
 have HV:=hidq (valE hV hR hF hA hat hst hv)
 have HC:=hidq (cellsS hR hF hA hat hst _ rfl)
 have HEND:Hid (∀(W:World) (ev2:Value),Rc W L rb pb lb fuel lc P cv av nv qv ev2 g2→Kr rb lb ev ev2 w W→FrP L rb pb lb fuel lc fb deep X ev w env n g2 (W.setCell ⟨fb,3,none⟩ (.int .i64 n))):=fun W ev2 q1 q2=>by
  have hF2:=hF.next hA q2
  have hA2:=hA.next (fun b hb=>(hF.up b hb).2) q2
  have hstay:∀b,b<W.heap.size→¬X b→(W.setCell ⟨fb,3,none⟩ (.int .i64 n)).heap[b]? =W.heap[b]? :=fun b _ hx'=>Below.heap_setCell _ _ _ _ (fun e=>hx' (by rw[show b=fb from e];exact hF.xf))
  refine⟨X,vo,vc,nbs,ev2,q1.rs.frame hA2 q1.sz hstay,hF2.back n,hA2,⟨⟨?_,fun b hb hl=> ?_⟩,q2.ev,fun b hb=>.inl hb,q2.sm.trans (Sm.set _ _ _)⟩⟩
  ·simp[World.setCell]
   exact q2.kp.size
  ·have hsz:=q2.kp.size
   exact(hstay b (by omega) hb.2.2.2).trans (q2.kp.block b ⟨hb.1,hb.2.1,hb.2.2.1⟩ hl)
 have HB3:Hid (∀W ev',Kr rb lb ev ev' w W→W.cell? ⟨fb,3,none⟩=some (.int .i64 back)):=fun W ev' q=>cl (hF.next hA q).blk 3 rfl
 have hst1:=stepS hR hlt
 obtain⟨f0,_,c0,c2,_,hfl,hbl,_⟩:=HC.out w ev (Kr.refl _ _ _ _)
 clear hq hq' hs hR hF hA hat hst hv hV
 go_enter Tryz.func56,Tryz.ntmps56
 go_wp2_with fail
 refine hst1.mono ?_
 rintro x w1 ⟨rfl,H1⟩
 obtain⟨e0,e2,d0,d2,_,el,dl,_⟩:=HC.out w1 ev H1.out.2
 have hcall:=HV.out w1 w1 ev H1.out.1 H1.out.2 (Below.refl _ _)
 clear hst1 f0 c0 c2 hfl hbl
 go_wp2_with fail
 refine hcall.mono ?_
 rintro x w2 ⟨rfl,H2⟩
 obtain⟨ev2,h1,h2⟩:=H2.out
 obtain⟨_,_,_,_,_,el2,_,hz⟩:=HC.out w2 ev2 h2
 have hz3:=hz 3
 have y3:=HB3.out w2 ev2 h2
 have HE:=hidq (HEND.out w2 ev2 h1 h2)
 clear hcall h1 h2 hz
 go_wp2
 go_end0
 exact⟨rfl,HE.out⟩
theorem kfOf {L rb pb lb fuel lc:Nat}{w W:World}{deep fb:Nat}{X:Nat→Prop}{vo:Option Addr}{vc:Nat}{nbs:List Nat}{env:Rr.Env}{back:Int}{ev ev2:Value}{g2:Rr.Sg}(hR:RS W L rb pb lb fuel lc ev2 g2)(hk:Kr rb lb ev ev2 w W)(hF:Rf w fb rb deep X vo vc nbs env back)(hA:Ap X L rb lb pb ev):FrP L rb pb lb fuel lc fb deep X ev w env back g2 W:=
 ⟨X,vo,vc,nbs,ev2,hR,hF.next hA hk,hA.next (fun b hb=>(hF.up b hb).2) hk,Kf.of hk⟩
theorem stmt_send {L rb pb lb fuel lc:Nat}{P:Prg}{cv av nv qv:Value}{S:Rr.Sem}(hV:ValC L rb pb lb fuel lc P cv av nv qv S.val){w:World}{deep fb:Nat}{X:Nat→Prop}{vo:Option Addr}{vc:Nat}{nbs:List Nat}{env env':Rr.Env}{back back':Int}{ev:Value}{g g':Rr.Sg}{p:Int}{s o:ByteArray}{d:Bool}{l:List Po}{e:Tr}{a b2:List Stm}{b off:Nat}{cs:List Value}
 (hR:Rc w L rb pb lb fuel lc P cv av nv qv ev g) (hF:Rf w fb rb deep X vo vc nbs env back) (hA:Ap X L rb lb pb ev) (hat:At w (fun b=>b<L) b off cs) (hst:StIs w (fun b=>b<L) (.mk 5 p s o d l e a b2) cs) (hq:Rr.stmF P fuel S deep env back (.mk 5 p s o d l e a b2) g=some (env',back',g')):
 Calls Tryz.prog 56 #[.pointer (some ⟨fb,0,none⟩),.pointer (some ⟨b,off,none⟩)] w fun r w'=>r=.returned (.tuple #[])∧FrP L rb pb lb fuel lc fb deep X ev w env' back' g' w':=by
 unfold Rr.stmF at hq
 replace hq:=Option.bind_eq_some_iff.1 hq
 obtain⟨g1,hs,hq⟩:=hq
 obtain⟨hlt,rfl⟩:=step_some hs
 have hq':((S.val deep env e ({g with steps:=g.steps+1}:Rr.Sg)).bind fun u=>(Rr.findC P.chans s 0).bind fun c=>if c.2.lab.length=0∧s.size≤4000∧u.2.evs.length<u.2.steps then some (env,back,{u.2 with evs:=u.2.evs++[u.1]}) else none)=some (env',back',g'):=hq
 obtain⟨⟨n,g2⟩,hv,hq2⟩:=Option.bind_eq_some_iff.1 hq'
 obtain⟨⟨i,ch⟩,hfc,hq3⟩:=Option.bind_eq_some_iff.1 hq2
 split at hq3
 case isFalse=>cases hq3
 rename_i hcond
 obtain⟨hl0,hss,hee⟩:=hcond
 simp only[Option.some.injEq,Prod.mk.injEq] at hq3
 obtain⟨rfl,rfl,rfl⟩:=hq3
 have HV:=hidq (valE hV hR hF hA hat hst hv)
 have HC:=hidq (cellsS hR hF hA hat hst _ rfl)
 have hst1:=stepS hR hlt
 obtain⟨f0,_,c0,c2,_,hfl,hbl,_⟩:=HC.out w ev (Kr.refl _ _ _ _)
 obtain⟨j,hj,h0,rfl, -, -⟩:=findC_first hfc
 obtain rfl:i=j:=by omega
 obtain⟨_,_,_,_,hcs,_,_,⟨css,⟨ao,cb,coff,cc,rfl,hr⟩,hc1,hk⟩,_⟩:=hR.pm.is
 simp only[List.cons.injEq,and_true] at hcs
 obtain⟨rfl,rfl,rfl,rfl⟩:=hcs
 have hic:i<css.length:=by omega
 obtain⟨lv,h3, -,hlv⟩:=hk i hj hic
 obtain⟨lo,lcp,rfl⟩:=hlv.val
 rw[hl0] at h3
 obtain⟨cn,hcn⟩:∃n,n=css.length:=⟨_,rfl⟩
 have hin:i<cn:=by omega
 have hadr:=hr.adr (by omega)
 have HM:Hid (∀(W:World) (ev':Value) (g':Rr.Sg),Rc W L rb pb lb fuel lc P cv av (.slice ao css.length cc) qv ev' g'→Kr rb lb ev ev' w W→W.cell? ⟨rb,3,none⟩=some (.pointer (some ⟨pb,0,none⟩))∧W.cell? ⟨pb,2,none⟩=some (.slice ao cn cc)∧W.cell? ⟨cb,coff+i*5+4,none⟩=some (.slice lo 0 lcp)∧rb<W.heap.size∧pb<W.heap.size∧cb<W.heap.size):=fun W ev' g' q1 q2=>by
  have hr2:=hr.keeps (w':=W) ⟨q2.kp.size,fun b hb hl=>q2.low hR.rs.rl hR.rs.ll (fun k e=>(hR.rs.evl k e).1) hb hl⟩
  exact⟨q1.rs.cells.2.2.1,by rw[hcn];exact cl q1.pm.blk 2 rfl,hr2.cell i hic 4 _ (by rw[h3];rfl),q1.rs.cells.2.2.2.2.2.2,lt_of_block q1.pm.blk,hr2.lt (by omega)⟩
 have HCH:Hid (∀(W W':World) (ev1:Value),Rc W L rb pb lb fuel lc P cv av (.slice ao css.length cc) qv ev1 g2→Kr rb lb ev ev1 w W→Below W.heap.size W W'→Calls Tryz.prog 95 #[.pointer (some ⟨rb,0,none⟩),.string s] W' fun x w'=>x=.returned (.int .i64 (i:Nat))∧Below W.heap.size W w'∧Hid (Rc w' L rb pb lb fuel lc P cv av (.slice ao css.length cc) qv ev1 g2∧Kr rb lb ev ev1 w w')):=fun W W' ev1 q1 q2 q3=>by
  have h1:=q1.bel q3
  refine(channelC h1.1.rs h1.1.pm hfc).mono ?_
  rintro x w' ⟨rfl,hb⟩
  have h2:=h1.1.bel hb
  exact⟨rfl,bu q3 hb,h2.1,q2.trans (h1.2.trans h2.2)⟩
 have HEV:Hid (∀(W W':World) (ev1:Value) (xo:Option Addr) (c:Nat),Rc W L rb pb lb fuel lc P cv av (.slice ao css.length cc) qv ev1 g2→Kr rb lb ev ev1 w W→Below W.heap.size W W'→Calls Tryz.prog 94 #[.pointer (some ⟨rb,0,none⟩),.string s,.int .i64 n,.slice xo 0 c] W' fun x w'=>x=.returned (.tuple #[])∧Hid (∃ev',Rc w' L rb pb lb fuel lc P cv av (.slice ao css.length cc) qv ev' {g2 with evs:=g2.evs++[n]}∧Kr rb lb ev ev' w w')):=fun W W' ev1 xo c q1 q2 q3=>by
  have h1:=q1.bel q3
  refine(eventC h1.1.rs hee h1.1.sz (lt_of_block h1.1.pm.blk) s hss n xo c).mono ?_
  rintro x w' ⟨rfl,ev',h2,h3⟩
  exact⟨rfl,ev',h1.1.next h2 h3,q2.trans (h1.2.trans h3)⟩
 have HEND:Hid (∀W ev' g',Rc W L rb pb lb fuel lc P cv av (.slice ao css.length cc) qv ev' g'→Kr rb lb ev ev' w W→FrP L rb pb lb fuel lc fb deep X ev w env back g' W):=fun W ev' g' q1 q2=>kfOf q1.rs q2 hF hA
 subst hadr
 clear hq hq' hs hR hF hA hat hst hv hV hfc hl0 hss hee hj h0 hr hc1 hk h3 hlv hcn hic
 go_enter Tryz.func56,Tryz.ntmps56
 go_wp2_with fail
 refine hst1.mono ?_
 rintro x w1 ⟨rfl,H1⟩
 obtain⟨e0,e2,d0,d2,_,el,dl,_⟩:=HC.out w1 ev H1.out.2
 have hcall:=HV.out w1 w1 ev H1.out.1 H1.out.2 (Below.refl _ _)
 clear hst1 f0 c0 c2 hfl hbl
 go_wp2_with fail
 refine hcall.mono ?_
 rintro x w2 ⟨rfl,H2⟩
 obtain⟨ev2,h1,h2⟩:=H2.out
 obtain⟨m3,m2,m4,lr,lp,lcb⟩:=HM.out w2 ev2 g2 h1 h2
 obtain⟨e20,_,d20,d22,_,el2,dl2,_⟩:=HC.out w2 ev2 h2
 have HRK:=hidq (And.intro h1 h2)
 clear hcall h1 h2 e0 e2 d0 d2 el dl
 go_upto_region 15 with fail
 go_region_held3 (fun W=>W.cell? ⟨fb,0,none⟩=some (.pointer (some ⟨rb,0,none⟩))∧W.cell? ⟨b,off+2,none⟩=some (.string s)∧W.cell? ⟨rb,3,none⟩=some (.pointer (some ⟨pb,0,none⟩))∧W.cell? ⟨pb,2,none⟩=some (.slice (some ⟨cb,coff,none⟩) cn cc)∧W.cell? ⟨cb,coff+i*5+4,none⟩=some (.slice lo 0 lcp)) (go_keep)
  (first
    |(go_at_call 95;refine(HCH.out w2 _ ev2 HRK.out.1 HRK.out.2 (by exact⟨rfl,rfl,rfl,Nat.le_refl _,fun _ _=>rfl⟩)).mono ?_;rintro x w3 ⟨rfl,hb3,H3⟩;have n0:=(hb3.cell (p:=⟨fb,0,none⟩) el2).trans e20;have n2:=(hb3.cell (p:=⟨b,off+2,none⟩) dl2).trans d22;have n3:=(hb3.cell (p:=⟨rb,3,none⟩) lr).trans m3;have n4:=(hb3.cell (p:=⟨pb,2,none⟩) lp).trans m2;have n5:=(hb3.cell (p:=⟨cb,coff+i*5+4,none⟩) lcb).trans m4)
    |(go_at_call 94;refine(HEV.out w3 _ ev2 _ _ H3.out.1 H3.out.2 (by exact⟨rfl,rfl,rfl,Nat.le_refl _,fun _ _=>rfl⟩)).mono ?_;rintro x w4 ⟨rfl,H4⟩;obtain⟨⟨a1,a2,a3,_,_,_⟩,a4,_,_,a5,_,_,_,_⟩:(w4.cell? ⟨rb,3,none⟩=some (.pointer (some ⟨pb,0,none⟩))∧w4.cell? ⟨pb,2,none⟩=some (.slice (some ⟨cb,coff,none⟩) cn cc)∧w4.cell? ⟨cb,coff+i*5+4,none⟩=some (.slice lo 0 lcp)∧rb<w4.heap.size∧pb<w4.heap.size∧cb<w4.heap.size)∧_:=(by obtain⟨ev',h1,h2⟩:=H4.out;exact⟨HM.out w4 ev' _ h1 h2,HC.out w4 ev' h2⟩)))
 go_wp2
 go_end0
 exact⟨rfl,by obtain⟨ev',h1,h2⟩:=H4.out;exact HEND.out w4 ev' _ h1 h2⟩
end Go.Proofs.YtepkhlpjgnckkaaGreatDoor
