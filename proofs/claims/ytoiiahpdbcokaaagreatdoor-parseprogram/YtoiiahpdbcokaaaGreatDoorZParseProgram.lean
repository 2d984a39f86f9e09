/- Proved: called with any text, in whatever memory that holds what the program's text lays in the ten listed variables and on every schedule, the law ParseProgram returns true. Its conditions: the table of signs of package tree, the library's tables and its two errors of package strconv start as the program's text lays them (the card ties them); the text is no longer than the form lets in. -/
import Derived.Test.YtoiiahpdbcokaaaGreatDoorTie
import Derived.Test.YtoiiahpdbcokaaaGreatDoorZQ
import Derived.Test.YtoiiahpdbcokaaaGreatDoorZPpWb
namespace Go.Proofs.YtoiiahpdbcokaaaGreatDoor.parseProgram
open Go.ChangeShapes Go.WideShapes Go.ChangeAt Go.RowKit
open Go.ChangeMaps (open_string shut_string)
theorem own:ownKnob Tryz.prog.godebug=none:=by kernel_rfl
theorem ajx:(Rows.laid_cloister_tree_levels:DataW Unit)=YI:=by kernel_rfl
theorem ajw:("cloister/tree.levels",(Rows.laid_cloister_tree_levels:DataW Unit))∈Rows.parseProgramRow.laid:=.tail _ (.tail _ (.tail _ (.tail _ (.tail _ (.tail _ (.tail _ (.tail _ (.head _))))))))
theorem levels {W:World}(h:laidMetH Tryz.prog Rows.parseProgramRow.laid W):gU W W.heap.size:=by
 have h':laidMet Tryz.prog Rows.parseProgramRow.laid W:=h
 have:=Lib.laidMet.reads h' ajw
 rw[ajx] at this
 exact ajt this
theorem aoN:Tryz.prog.cellsOf 310=20:=by kernel_rfl
theorem aoQ:Tryz.prog.cellsOf 278=1:=by kernel_rfl
theorem agG:(Rows.laid_internal_strconv_uint64pow10:DataW Unit)=Lib.tabData .u64 Lib.pow10Tab:=by kernel_rfl
theorem agF:("internal/strconv.uint64pow10",(Rows.laid_internal_strconv_uint64pow10:DataW Unit))∈Rows.parseProgramRow.laid:=.tail _ (.tail _ (.head _))
theorem aeM:(Rows.laid_strings_asciiSpace:DataW Unit)=Lib.tabData .u8 Lib.asciiSpaceTab:=by kernel_rfl
theorem aeL:("strings.asciiSpace",(Rows.laid_strings_asciiSpace:DataW Unit))∈Rows.parseProgramRow.laid:=.tail _ (.tail _ (.tail _ (.tail _ (.tail _ (.tail _ (.tail _ (.head _)))))))
theorem aoM:Tryz.prog.cellsOf 190=256:=by kernel_rfl
theorem cellsByte:Tryz.prog.cellsOf 5=1:=by kernel_rfl
theorem aeK {W:World}(h:laidMetH Tryz.prog Rows.parseProgramRow.laid W):Lib.TabIs Tryz.prog W "strings.asciiSpace" .u8 Lib.asciiSpaceTab:=by
 have h':laidMet Tryz.prog Rows.parseProgramRow.laid W:=h
 obtain⟨g,t,cs,fuel,p,hg,ht,tM,hd⟩:=Lib.laidMet.reads h' aeL
 obtain rfl:0=g:=Option.some.inj ((show Tryz.prog.globalNamed "strings.asciiSpace"=some 0 by kernel_rfl).symm.trans hg)
 obtain rfl:190=t:=Option.some.inj ((show(Tryz.prog.globals[0]?).map (·.type)=some 190 by kernel_rfl).symm.trans ht)
 rw[aeM] at hd
 unfold Lib.TabIs
 rw[tM,←Lib.cells_of_tab Tryz.underlying190 Tryz.underlying5 cellsByte aoM hd]
theorem ajq {W:World}(h:W.ShapedOpen Tryz.prog):∃m,W.cell? ⟨3,0,none⟩=some (.int .i64 m):=
 cell_of_shapedOpen_int (t:=3) (zero:=#[.int .i64 0]) h (of_decide_eq_true (by kernel_rfl)) (by kernel_rfl) rfl (by kernel_rfl) (by kernel_rfl) Tryz.underlying3
theorem ajG {W:World}(h:laidMetH Tryz.prog Rows.parseProgramRow.laid W)(gK:W.ShapedOpen Tryz.prog):FX W:=
 ⟨ajq gK,fun _ hV=>Joins.tab_stays (g:=0) (by kernel_rfl) (aeK h) hV (Nat.le_refl _)⟩
theorem table {W:World}(h:laidMetH Tryz.prog Rows.parseProgramRow.laid W):Lib.TabIs Tryz.prog W "internal/strconv.uint64pow10" .u64 Lib.pow10Tab:=by
 have h':laidMet Tryz.prog Rows.parseProgramRow.laid W:=h
 obtain⟨g,t,cs,fuel,p,hg,ht,tM,hd⟩:=Lib.laidMet.reads h' agF
 obtain rfl:8=g:=Option.some.inj ((show Tryz.prog.globalNamed "internal/strconv.uint64pow10"=some 8 by kernel_rfl).symm.trans hg)
 obtain rfl:310=t:=Option.some.inj ((show(Tryz.prog.globals[8]?).map (·.type)=some 310 by kernel_rfl).symm.trans ht)
 rw[agG] at hd
 unfold Lib.TabIs
 rw[tM,←Lib.cells_of_tab Tryz.underlying310 Tryz.underlying278 aoQ aoN hd]
set_option maxRecDepth 100000 in
theorem aoo (H:Type)(enc:TypeId×Value→H)(W:World)(base:Nat)(args:Array Value)(ds gs:List (DataW H))(before:List MemPlace)
 (ZK:∀(j:Nat) t v,Tryz.f3.params[j]? =some t→args[j]? =some v→Value.okWide Tryz.prog W .any base t v)
 (hW:DataW.Whole enc Tryz.prog Tryz.f3.params.toList Rows.parseProgramSpec.vars false W args.toList ds gs before)
 (Ho:(DataW.weightsEach Tryz.prog (Tryz.f3.params.toList++Rows.parseProgramSpec.plain.varTypes Tryz.prog) (ds++gs)).all (·≤reachBytes)=true) (hL:laidMetH Tryz.prog Rows.parseProgramRow.laid W) (gK:W.ShapedOpen Tryz.prog):
 Calls Tryz.prog 3 args W fun e W'=>∃v,e=.returned v∧Rows.parseProgramSpec.post enc Tryz.prog Tryz.f3 false true false false W args v W':=by
 have NW:∀(j:Nat) t v,Tryz.f3.params[j]? =some t→args[j]? =some v→Value.okWide Tryz.prog W .any base t v:=ZK
 have ct:=Ho
 have hW':=hW
 obtain⟨p,q,OQ,hV,rfl,_,_⟩:=hW
 have hA:DataW.TrodAll enc Tryz.prog W 0 (fun _=>true) true Tryz.f3.params.toList args.toList ds p:=OQ
 rw[Tryz.params3] at hA NW ct
 obtain⟨v0,vs0,d0,ds0,p0,q0,asE,rfl,rfl,h0,r0⟩:=trodAll_cons hA
 obtain⟨rfl,rfl,rfl⟩:=trodAll_nil r0
 obtain rfl:args=#[v0]:=by cases args;simp_all
 obtain⟨rfl,rfl⟩:=trodVars_none hV
 obtain⟨s,rfl,rfl,rfl,hs⟩:=open_string Tryz.underlying9 (NW 0 9 v0 rfl rfl) h0
 have s0:s.data.toList.length≤reachBytes:=sized_string ct (j:=0) (t:=9) rfl rfl
 rw[Lex.df] at s0
 simp only[reachBytes] at s0
 clear OQ ZK Ho ct
 refine(aki s W (by omega) (akE (table hL)) (levels hL) (ajG hL gK)).mono fun e W' ⟨he,ff⟩=> ?_
 subst he
 exact⟨_,rfl,_,_,_,[],_,[],hW',trodAll_mk1 (shut_bool Tryz.underlying4 _),(trodAll_cons_mk (shut_string Tryz.underlying9 hs) trodAll_mk0),rfl,ff.frame _,fun h=>by cases h⟩
set_option maxRecDepth 100000 in
theorem lifted (os:Os)(started:os.Started)(H:Type)(enc:TypeId×Value→H)(F:Stop.Interp):
 ReturnsInHanded {} Tryz.checked os 3 .any ((OpenSpec.ofChange Rows.parseProgramSpec).preRow enc Tryz.prog Tryz.f3 Rows.parseProgramRow.domain false Rows.parseProgramRow.laid) (((OpenSpec.ofChange Rows.parseProgramSpec).at F).post enc Tryz.prog Tryz.f3 false true false false):=by
 obtain⟨places,hx⟩:=reads os enc
 refine returnsInHanded_of_row (C:=Tryz.checked) (s:=OpenSpec.ofChange Rows.parseProgramSpec) own started (by kernel_rfl) Tryz.func3
  (witness_row_atRef (enc:=enc) (C:=Tryz.checked) false (ER os) #[.string ⟨#[]⟩] rfl (by kernel_rfl) (by kernel_rfl) (by kernel_rfl)
    (OpenSpec.preRow_of_cond 8 hx (by kernel_rfl) (fun k hk=>by cases hk) (by kernel_rfl) (akm os))) ?_
 intro W base args ds gs before NW hW _ _ ct hL gK _
 exact aoo H enc W base args ds gs before NW hW ct hL gK
theorem said:Rows.ParseProgramSaid:=
 OpenClaim.holds_of_cond 3 Tryz.f3 rfl rfl rfl rfl rfl rfl rfl ⟨rfl,rfl,rfl,rfl,rfl⟩ rfl rfl rfl rfl rfl (by kernel_rfl) Tryz.func3 (by kernel_rfl)
  (of_decide_eq_true (by kernel_rfl)) (by unfold Func.isWrapper;first |(rw[if_pos (by decide+kernel)];kernel_rfl)|(rw[if_neg (by decide+kernel)];exact⟨rfl,rfl⟩))
  (fun os started H enc _ F=>by rw[OpenClaim.pre_eq_preRow];exact lifted os started H enc F)
theorem plain (f:FuncId)(fn:Func)(hf:Tryz.pinned.checked.prog.funcNamed "cloister/cloisterlaw.ParseProgram"=some f)(KE:Tryz.pinned.checked.prog.funcs[f]? =some fn):
 true=Tryz.pinned.checked.prog.looks []∧∀(j:Nat) t,fn.params[j]? =some t→Tryz.pinned.checked.prog.wantsStandIn t=false:=by
 obtain rfl:f=3:=Option.some.inj ((show Tryz.prog.funcNamed "cloister/cloisterlaw.ParseProgram"=some 3 by kernel_rfl).symm.trans hf) |>.symm
 obtain rfl:fn=Tryz.f3:=(Option.some.inj (Tryz.func3.symm.trans KE)).symm
 refine⟨by kernel_rfl,fun j t ht=> ?_⟩
 rw[Tryz.params3] at ht
 have hm:=Array.mem_of_getElem? ht
 simp at hm
 subst hm
 exact(show Tryz.prog.wantsStandIn 9=false by kernel_rfl)
end Go.Proofs.YtoiiahpdbcokaaaGreatDoor.parseProgram
namespace Go.Proofs.YtoiiahpdbcokaaaGreatDoor
theorem parseProgram_holds:Rows.ParseProgramCardSaid:=
 Claim7.holds_tied_plain_at .later [] _ _ _ _ parseProgram.said (fun _ h=>by cases h) (by kernel_rfl) (fun _ h=>by cases h) parseProgram_row_tie rfl ⟨rfl,rfl⟩ (by kernel_rfl) rfl parseProgram.plain (by kernel_rfl)
#print axioms parseProgram_holds
end Go.Proofs.YtoiiahpdbcokaaaGreatDoor
