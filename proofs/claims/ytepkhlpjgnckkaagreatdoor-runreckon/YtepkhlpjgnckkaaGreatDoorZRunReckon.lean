/- Proved: called with any sign, any two numbers, any program and any lists of lists of numbers that can be read as data, in whatever memory that holds what the program's text lays in the six listed variables and on every schedule, the law RunReckon returns true. Its conditions: the table of signs of package tree, the library's tables and its two errors of package strconv start as the program's text lays them (the card ties them); the text is no longer than the form lets in. -/
import Derived.Test.YtepkhlpjgnckkaaGreatDoorTie
import Derived.Test.YtepkhlpjgnckkaaGreatDoorZD4
import Derived.Test.YtepkhlpjgnckkaaGreatDoorZRrWb
namespace Go.Proofs.YtepkhlpjgnckkaaGreatDoor.runReckon
open Go.ChangeShapes Go.WideShapes Go.ChangeAt Go.RowKit
open Go.ChangeMaps (open_string shut_string)
open laidV (laidWorld)
theorem laidOut:laidOutB Tryz.prog=true:=by kernel_rfl
theorem own:ownKnob Tryz.prog.godebug=none:=by kernel_rfl
theorem lev_data:(Rows.laid_cloister_tree_levels:DataW Unit)=levD:=by kernel_rfl
theorem lev_in:("cloister/tree.levels",(Rows.laid_cloister_tree_levels:DataW Unit))∈Rows.runReckonRow.laid:=.tail _ (.tail _ (.tail _ (.tail _ (.tail _ (.head _)))))
theorem levels {W:World}(h:laidMetH Tryz.prog Rows.runReckonRow.laid W):LevAt W W.heap.size:=by
 have h':laidMet Tryz.prog Rows.runReckonRow.laid W:=h
 have:=Lib.laidMet.reads h' lev_in
 rw[lev_data] at this
 exact lev_reads this
set_option maxRecDepth 100000 in
theorem contract (H:Type)(enc:TypeId×Value→H)(W:World)(base:Nat)(args:Array Value)(ds gs:List (DataW H))(before:List MemPlace)
 (hval0:∀(j:Nat) t v,Tryz.f3.params[j]? =some t→args[j]? =some v→Value.okWide Tryz.prog W .any base t v)
 (hW:DataW.Whole enc Tryz.prog Tryz.f3.params.toList Rows.runReckonSpec.vars false W args.toList ds gs before)
 (hsz0:(DataW.weightsEach Tryz.prog (Tryz.f3.params.toList++Rows.runReckonSpec.plain.varTypes Tryz.prog) (ds++gs)).all (·≤reachBytes)=true) (hL:laidMetH Tryz.prog Rows.runReckonRow.laid W) (_hsh:W.ShapedOpen Tryz.prog):
 Calls Tryz.prog 3 args W fun e W'=>∃v,e=.returned v∧Rows.runReckonSpec.post enc Tryz.prog Tryz.f3 false true false false W args v W':=by
 have hval:∀(j:Nat) t v,Tryz.f3.params[j]? =some t→args[j]? =some v→Value.okWide Tryz.prog W .any base t v:=hval0
 have hsz:=hsz0
 have hW':=hW
 obtain⟨p,q,hA0,hV,rfl,_,_⟩:=hW
 have hA:DataW.TrodAll enc Tryz.prog W 0 (fun _=>true) true Tryz.f3.params.toList args.toList ds p:=hA0
 rw[Tryz.params3] at hA hval hsz
 obtain⟨v0,vs0,d0,ds0,p0,q0,hargs,rfl,rfl,h0,r0⟩:=trodAll_cons hA
 obtain⟨v1,vs1,d1,ds1,p1,q1,rfl,rfl,rfl,h1,r1⟩:=trodAll_cons r0
 obtain⟨v2,vs2,d2,ds2,p2,q2,rfl,rfl,rfl,h2,r2⟩:=trodAll_cons r1
 obtain⟨v3,vs3,d3,ds3,p3,q3,rfl,rfl,rfl,h3,r3⟩:=trodAll_cons r2
 obtain⟨v4,vs4,d4,ds4,p4,q4,rfl,rfl,rfl,h4,r4⟩:=trodAll_cons r3
 obtain⟨rfl,rfl,rfl⟩:=trodAll_nil r4
 obtain rfl:args=#[v0,v1,v2,v3,v4]:=by cases args;simp_all
 obtain⟨rfl,rfl⟩:=trodVars_none hV
 obtain⟨s,rfl,rfl,rfl,hs⟩:=open_string Tryz.underlying9 (hval 0 9 v0 rfl rfl) h0
 obtain⟨a,rfl,rfl,rfl,ha⟩:=open_int Tryz.underlying3 (hval 1 3 v1 rfl rfl) h1
 obtain⟨b,rfl,rfl,rfl,hb⟩:=open_int Tryz.underlying3 (hval 2 3 v2 rfl rfl) h2
 obtain⟨cs,rfl,hcs⟩:=okWide_struct Tryz.underlying27 (hval 3 27 v3 rfl rfl)
 obtain⟨a4,len4,cap4,rfl⟩:=okWide_slice Tryz.underlying28 (hval 4 28 v4 rfl rfl)
 have k3:=h3
 have k4:=h4
 have lt3:∀x∈p3,x.block<W.heap.size:=by obtain⟨m,hm⟩:=k3;exact DataW.trod_lt m _ _ _ hm
 have lt4:∀x∈p4,x.block<W.heap.size:=by obtain⟨m,hm⟩:=k4;exact DataW.trod_lt m _ _ _ hm
 obtain⟨x0,x1,co,cc,x3,cb,coff,bs,hcl,hch⟩:∃v0 v1 co cc v3 cb coff bs,cs.toList=[v0,v1,.slice co (bs:List Bool).length cc,v3]∧ChR W co cb coff bs:=by
  obtain⟨fuel,hf⟩:=h3
  exact progR_open (cs:=cs.toList) (by rw[Array.length_toList,hcs,Tryz.cellsPrgP]) hf
 obtain rfl:cs=#[x0,x1,.slice co bs.length cc,x3]:=Array.ext' hcl
 obtain⟨hm4,b4,off4,ns,rfl,hi4⟩:len4≤maxLen∧∃b off ns,len4=ns.length∧InR W a4 b off ns:=by
  obtain⟨fuel,hf⟩:=k4
  exact listsR_open hf
 clear hA0 hval0 hsz0 hsz
 have hbb: -9223372036854775808≤b∧b<9223372036854775808:=by
  have h9:decide (IntKind.i64.min≤b)=true∧decide (b≤IntKind.i64.max)=true:=by simpa only[Lit.wf,Bool.and_eq_true] using hb
  have h7:IntKind.i64.min= -9223372036854775808:=by decide
  have h8:IntKind.i64.max=9223372036854775807:=by decide
  rw[h7,h8] at h9
  simp only[decide_eq_true_eq] at h9
  omega
 have hlaw:=law_rr (l:=s.data.toList) (a:=a) (b:=b) (cv:=x0) (av:=x1) (qv:=x3) (cc:=cc) (ac:=cap4) (levels hL) hbb.1 hbb.2 hm4 hi4 hch
 rw[show Par.ba s.data.toList=s by simp[Par.ba]] at hlaw
 refine hlaw.mono fun e W' ⟨he,bel⟩=> ?_
 subst he
 exact⟨_,rfl,_,_,_,[],_,[],hW',trodAll_mk1 (shut_bool Tryz.underlying4 _),(trodAll_cons_mk (shut_string Tryz.underlying9 hs) (trodAll_cons_mk (shut_int Tryz.underlying3 ha) (trodAll_cons_mk (shut_int Tryz.underlying3 hb) (trodAll_cons_mk (Below.trod laidOut (by kernel_rfl) (of_decide_eq_true (by kernel_rfl)) k3 bel lt3) (trodAll_cons_mk (Below.trod laidOut (by kernel_rfl) (of_decide_eq_true (by kernel_rfl)) k4 bel lt4) trodAll_mk0))))),rfl,bel.frame _,fun h=>by cases h⟩
set_option maxRecDepth 100000 in
theorem lifted (os:Os)(started:os.Started)(H:Type)(enc:TypeId×Value→H)(F:Stop.Interp):
 ReturnsInHanded {} Tryz.checked os 3 .any ((OpenSpec.ofChange Rows.runReckonSpec).preRow enc Tryz.prog Tryz.f3 Rows.runReckonRow.domain false Rows.runReckonRow.laid) (((OpenSpec.ofChange Rows.runReckonSpec).at F).post enc Tryz.prog Tryz.f3 false true false false):=by
 obtain⟨places,hx⟩:=reads os enc
 refine returnsInHanded_of_row (C:=Tryz.checked) (s:=OpenSpec.ofChange Rows.runReckonSpec) own started (by kernel_rfl) Tryz.func3
  (witness_row_atRef (enc:=enc) (C:=Tryz.checked) false (laidWorld os) #[.string ⟨#[]⟩,.int .i64 0,.int .i64 0,.agg #[.slice none 0 0,.slice none 0 0,.slice none 0 0,.slice none 0 0],.slice none 0 0] rfl (by kernel_rfl) (by kernel_rfl) (by kernel_rfl)
    (OpenSpec.preRow_of_cond 8 hx (by kernel_rfl) (fun k hk=>by cases hk) (by kernel_rfl) (laid_met os))) ?_
 intro W base args ds gs before hval hW _ _ hsz hL hsh _
 exact contract H enc W base args ds gs before hval hW hsz hL hsh
theorem said:Rows.RunReckonSaid:=
 OpenClaim.holds_of_cond 3 Tryz.f3 rfl rfl rfl rfl rfl rfl rfl ⟨rfl,rfl,rfl,rfl,rfl⟩ rfl rfl rfl rfl rfl (by kernel_rfl) Tryz.func3 (by kernel_rfl)
  (of_decide_eq_true (by kernel_rfl)) (by unfold Func.isWrapper;first |(rw[if_pos (by decide+kernel)];kernel_rfl)|(rw[if_neg (by decide+kernel)];exact⟨rfl,rfl⟩))
  (fun os started H enc _ F=>by rw[OpenClaim.pre_eq_preRow];exact lifted os started H enc F)
theorem plain (f:FuncId)(fn:Func)(hf:Tryz.pinned.checked.prog.funcNamed "cloister/cloisterlaw.RunReckon"=some f)(hfn:Tryz.pinned.checked.prog.funcs[f]? =some fn):
 true=Tryz.pinned.checked.prog.looks []∧∀(j:Nat) t,fn.params[j]? =some t→Tryz.pinned.checked.prog.wantsStandIn t=false:=by
 obtain rfl:f=3:=Option.some.inj ((show Tryz.prog.funcNamed "cloister/cloisterlaw.RunReckon"=some 3 by kernel_rfl).symm.trans hf) |>.symm
 obtain rfl:fn=Tryz.f3:=(Option.some.inj (Tryz.func3.symm.trans hfn)).symm
 refine⟨by kernel_rfl,fun j t ht=> ?_⟩
 rw[Tryz.params3] at ht
 have hm:=Array.mem_of_getElem? ht
 simp at hm
 rcases hm with rfl | rfl | rfl | rfl
 ·exact(show Tryz.prog.wantsStandIn 9=false by kernel_rfl)
 ·exact(show Tryz.prog.wantsStandIn 3=false by kernel_rfl)
 ·exact(show Tryz.prog.wantsStandIn 27=false by kernel_rfl)
 ·exact(show Tryz.prog.wantsStandIn 28=false by kernel_rfl)
end Go.Proofs.YtepkhlpjgnckkaaGreatDoor.runReckon
namespace Go.Proofs.YtepkhlpjgnckkaaGreatDoor
theorem runReckon_holds:Rows.RunReckonCardSaid:=
 Claim7.holds_tied_plain_at .later [] _ _ _ _ runReckon.said (fun _ h=>by cases h) (by kernel_rfl) (fun _ h=>by cases h) runReckon_row_tie rfl ⟨rfl,rfl⟩ (by kernel_rfl) rfl runReckon.plain (by kernel_rfl)
#print axioms runReckon_holds
end Go.Proofs.YtepkhlpjgnckkaaGreatDoor
