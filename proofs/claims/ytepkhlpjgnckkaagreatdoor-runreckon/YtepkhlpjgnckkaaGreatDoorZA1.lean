/- Maps whose keys are places: where a list lies, how many it is, how deep. And more of the same. -/
import Derived.Test.YtepkhlpjgnckkaaGreatDoorChecked
import Derived.Test.YtepkhlpjgnckkaaGreatDoorZA0
import Derived.LaidEql
import Derived.Laws.StructEq
import Derived.MapKept
import Derived.WideKeyRuns
import Derived.ProofKit
namespace Go.Proofs.YtepkhlpjgnckkaaGreatDoor
set_option maxRecDepth 100000
set_option maxHeartbeats 8000000
open Go.RowKit
abbrev PK:=Nat×Nat×Nat×Nat
def pkV (p:PK):Value:=.agg #[.pointer (some ⟨p.1,p.2.1,none⟩),.int .i64 (p.2.2.1:Int),.int .i64 (p.2.2.2:Int)]
def Pln (w:World)(b:Nat):Prop:=∃cs e,w.heap[b]? =some (.cells cs e (0,0))
theorem ptrSize:(Tryz.prog.info? 134).map (·.size)=some 7:=by kernel_rfl
theorem plFields:(Tryz.prog.fieldsOf 271).toList.map (fun f=>(f.name,f.type,f.offset))=[("first",174,0),("n",3,1),("deep",3,2)]:=by kernel_rfl
theorem plWide:(match Tryz.prog.underlying 271 with | some (.array _ _)| some (.struct _)=>true | _=>false)=true:=by kernel_rfl
theorem plStruct:Tryz.prog.underlying 271=some (.struct (Tryz.prog.fieldsOf 271)):=by kernel_rfl
theorem plHeld:Tryz.prog.stoodInHeld 271=false:=by kernel_rfl
theorem plCheck (em:Bool)(p:PK)(w:World):(Instr.checkKey em 10000 271 (pkV p)).run Tryz.prog w=.ok () w:=by unfold pkV;kernel_rfl
theorem part0 (x y z:Value)(w:World):(part 174 #[x,y,z] 0).run Tryz.prog w=.ok x w:=by kernel_rfl
theorem part1 (x y z:Value)(w:World):(part 3 #[x,y,z] 1).run Tryz.prog w=.ok y w:=by kernel_rfl
theorem part2 (x y z:Value)(w:World):(part 3 #[x,y,z] 2).run Tryz.prog w=.ok z w:=by kernel_rfl
theorem eqPtr (d:Nat)(a b:Addr)(w:World):(Op.equalIn (d+1) 174 (.pointer (some a)) (.pointer (some b))).run Tryz.prog w=(sameAddr a b).run Tryz.prog w:=by
 have hs:=ptrSize
 cases hi:Tryz.prog.info? 134 with
 | none=>rw[hi] at hs;simp at hs
 | some i=>
  rw[hi] at hs
  have hz:i.size=7:=by simpa using hs
  simp[Op.equalIn,run_underlying Tryz.underlying174,sizeOf,typeInfo,hi,hz]
theorem eqPK (w:World)(p q:PK)(hp:Pln w p.1)(hq:Pln w q.1):(Op.equal 271 (pkV p) (pkV q)).run Tryz.prog w=.ok (decide (p=q)) w:=by
 obtain⟨cs,e,hp⟩:=hp
 obtain⟨cs',e',hq⟩:=hq
 have key:(sameAddr ⟨p.1,p.2.1,none⟩ ⟨q.1,q.2.1,none⟩).run Tryz.prog w=.ok (decide ((p.1,p.2.1)=(q.1,q.2.1))) w:=by
  by_cases h:(p.1,p.2.1)=(q.1,q.2.1)
  ·simp only[Prod.mk.injEq] at h
   rw[h.1,h.2]
   rw[run_sameAddr_same];simp
  ·rw[run_sameAddr_other w (fun hh=>h (by simp only[Addr.mk.injEq,and_true] at hh;rw[hh.1,hh.2])) hp hq]
   simp[h]
 obtain⟨a,b,c,d⟩:=p
 obtain⟨a',b',c',d'⟩:=q
 have hf:=plFields
 unfold pkV
 show(Op.equalIn (9999+1) _ _ _).run _ _=_
 rw[run_equalIn_struct w 9999 _ _ _ plStruct plHeld]
 match hm:(Tryz.prog.fieldsOf 271).toList with
 |[]=>rw[hm] at hf;simp at hf
 |[_]=>rw[hm] at hf;simp at hf
 |[_,_]=>rw[hm] at hf;simp at hf
 | f0::f1::f2::f3::_=>rw[hm] at hf;simp at hf
 |[f0,f1,f2]=>
  rw[hm] at hf
  simp only[List.map_cons,List.map_nil,List.cons.injEq,Prod.mk.injEq,and_true] at hf
  obtain⟨⟨n0,t0,o0⟩,⟨n1,t1,o1⟩,n2,t2,o2⟩:=hf
  have ep:=eqPtr 9998 ⟨a,b,none⟩ ⟨a',b',none⟩ w
  have i1:=run_equalIn_int (P:=Tryz.prog) w 9998 3 .i64 .i64 (c:Int) (c':Int) Tryz.underlying3
  have i2:=run_equalIn_int (P:=Tryz.prog) w 9998 3 .i64 .i64 (d:Int) (d':Int) Tryz.underlying3
  simp only[Op.eqFields,n0,n1,n2,t0,t1,t2,o0,o1,o2,ne_eq,String.reduceEq,not_false_eq_true,if_true,Sem.run_bind,part0,part1,part2,Result.andThen_ok,ep,key,i1,i2,Sem.run_ite,Sem.run_pure]
  by_cases h1:(a,b)=(a',b')
  ·simp only[Prod.mk.injEq] at h1
   obtain⟨rfl,rfl⟩:=h1
   by_cases h2:c=c'
   ·subst h2
    by_cases h3:d=d'
    ·subst h3;simp
    ·have:¬((d:Int)=d'):=by omega
     simp[h3,this]
   ·have:¬((c:Int)=c'):=by omega
    simp[h2,this]
  ·have h1':¬(a=a'∧b=b'):=by simpa using h1
   have:¬((a,b,c,d)=(a',b',c',d')):=by
    intro e;simp only[Prod.mk.injEq] at e;exact h1' ⟨e.1,e.2.1⟩
   simp[h1',this]
theorem find_run (w:World)(p:PK)(hp:Pln w p.1):∀(es:List MapEntry) (K:List PK) (i:Nat),es.map (·.key)=K.map pkV→(∀q∈K,Pln w q.1)→
 (p ∉ K∧(Instr.findAsking 271 (pkV p) es i).run Tryz.prog w=.ok none w)∨(p∈K∧∃j e,es[j]? =some e∧e.key=pkV p∧(Instr.findAsking 271 (pkV p) es i).run Tryz.prog w=.ok (some (i+j,e.val)) w):=by
 intro es
 induction es with
 | nil=>
  intro K i hk _
  have:K=[]:=by simpa using hk.symm
  subst this
  exact .inl ⟨by simp,by simp[Instr.findAsking]⟩
 | cons e es ih=>
  intro K i hk hpl
  cases K with
  | nil=>simp at hk
  | cons q K=>
   simp only[List.map_cons,List.cons.injEq] at hk
   have heq:=eqPK w p q hp (hpl q (by simp))
   rw[←hk.1] at heq
   by_cases h:p=q
   ·subst h
    refine .inr ⟨by simp,0,e,rfl,hk.1,?_⟩
    simp[Instr.findAsking,heq]
   ·rcases ih K (i+1) hk.2 (fun q hq=>hpl q (by simp[hq])) with⟨h1,h2⟩|⟨h1,j,e',h2,h3,h4⟩
    ·exact .inl ⟨by simp[h,h1],by simp[Instr.findAsking,heq,h,h2]⟩
    ·refine .inr ⟨by simp[h1],j+1,e',by simpa using h2,h3,?_⟩
     simp[Instr.findAsking,heq,h,h4];omega
structure MapPl (w:World)(B:Nat)(L:List (PK×Value)):Prop where
 ex:∃es clock,w.heap[B]? =some (.map es clock)∧es.toList.map (fun e=>(e.key,e.val))=L.map (fun p=>(pkV p.1,p.2))
 pln:∀p∈L,Pln w p.1.1
theorem MapPl.lt {w:World}{B:Nat}{L:List (PK×Value)}(h:MapPl w B L):B<w.heap.size:=by
 obtain⟨es,c,hb,_⟩:=h.ex
 exact lt_of_block hb
theorem Pln.keeps {w w':World}{b:Nat}(h:Pln w b)(hb:w'.heap[b]? =w.heap[b]?):Pln w' b:=by
 obtain⟨cs,e,h⟩:=h
 exact⟨cs,e,hb.trans h⟩
theorem keys_of {es:Array MapEntry}{L:List (PK×Value)}(h:es.toList.map (fun e=>(e.key,e.val))=L.map (fun p=>(pkV p.1,p.2))):es.toList.map (·.key)=(L.map (·.1)).map pkV:=by
 have:=congrArg (List.map Prod.fst) h
 simpa[List.map_map,Function.comp_def] using this
theorem MapPl.find {w:World}{B:Nat}{L:List (PK×Value)}(h:MapPl w B L){es:Array MapEntry}{clock:Nat}(hb:w.heap[B]? =some (.map es clock))(p:PK)(hp:Pln w p.1):
 (p ∉ L.map (·.1)∧(Instr.findKey 271 (pkV p) es.toList).run Tryz.prog w=.ok none w)∨(p∈L.map (·.1)∧∃j e,es.toList[j]? =some e∧e.key=pkV p∧(Instr.findKey 271 (pkV p) es.toList).run Tryz.prog w=.ok (some (j,e.val)) w):=by
 obtain⟨es',clock',hb',hk⟩:=h.ex
 rw[hb] at hb'
 simp only[Option.some.injEq,Obj.map.injEq] at hb'
 obtain⟨rfl,rfl⟩:=hb'
 rw[run_findKey_eq w plWide]
 have:=find_run w p hp es.toList (L.map (·.1)) 0 (keys_of hk) (fun q hq=>by obtain⟨x,hx,rfl⟩:=List.mem_map.1 hq;exact h.pln x hx)
 simpa using this
def SetP (w:World)(B:Nat)(K:List PK):Prop:=MapPl w B (K.map fun p=>(p,.agg #[]))
theorem setKeys (K:List PK):(K.map fun p=>(p,Value.agg #[])).map (·.1)=K:=by simp[List.map_map,Function.comp_def]
theorem SetP.keeps {w w':World}{B:Nat}{K:List PK}(h:SetP w B K)(hB:w'.heap[B]? =w.heap[B]?)(hK:∀p∈K,w'.heap[p.1]? =w.heap[p.1]?):SetP w' B K:=by
 obtain⟨⟨es,c,hb,hk⟩,hp⟩:=h
 refine⟨⟨es,c,hB.trans hb,hk⟩,fun p hp'=> ?_⟩
 obtain⟨q,hq,rfl⟩:=List.mem_map.1 hp'
 exact(hp _ hp').keeps (hK q hq)
theorem SetP.pl {w:World}{B:Nat}{K:List PK}(h:SetP w B K){p:PK}(hp:p∈K):Pln w p.1:=h.pln (p,.agg #[]) (List.mem_map.2 ⟨p,hp,rfl⟩)
theorem zeroUn (w:World):(zeroValue 76).run Tryz.prog w=.ok (.agg #[]) w:=by kernel_rfl
theorem SetP.val {es:Array MapEntry}{K:List PK}(h:es.toList.map (fun e=>(e.key,e.val))=(K.map fun p=>(p,Value.agg #[])).map (fun p=>(pkV p.1,p.2))){e:MapEntry}(he:e∈es.toList):e.val=.agg #[]:=by
 have:(e.key,e.val)∈es.toList.map (fun e=>(e.key,e.val)):=List.mem_map.2 ⟨e,he,rfl⟩
 rw[h] at this
 obtain⟨q,hq,e1⟩:=List.mem_map.1 this
 obtain⟨r,hr,rfl⟩:=List.mem_map.1 hq
 simp only[Prod.mk.injEq] at e1
 exact e1.2.symm
theorem SetP.asks {w:World}{B:Nat}{K:List PK}(h:SetP w B K)(p:PK)(hp:Pln w p.1):(Instr.lookup 121 (.map (some B)) (pkV p) true).run Tryz.prog w=.ok (.tuple #[.agg #[],.bool (decide (p∈K))]) w:=by
 obtain⟨es,clock,hb,hk⟩:=h.ex
 have hf:=h.find hb p hp
 rw[setKeys] at hf
 have hz:=zeroUn w
 have hc:=plCheck es.isEmpty p w
 simp only[Instr.lookup,Sem.run_bind,run_underlying Tryz.underlying121,Result.andThen_ok,MapKept.run_getObj_map hb,Sem.run_pure,hc]
 rcases hf with⟨h1,h2⟩|⟨h1,j,e,h2,h3,h4⟩
 ·simp[h2,h1,hz]
 ·have:=SetP.val hk (List.mem_of_getElem? h2)
  simp[h4,h1,this]
theorem sameBits_pk (p:PK):Instr.sameBits 10000 (pkV p) (pkV p)=true:=by
 unfold pkV
 simp[Instr.sameBits]
def addP (K:List PK)(p:PK):List PK:=if p∈K then K else K++[p]
theorem mem_addP {K:List PK}{p q:PK}:q∈addP K p↔q∈K∨q=p:=by
 unfold addP
 split
 ·rename_i h
  constructor
  ·exact .inl
  ·rintro(h' | rfl)
   ·exact h'
   ·exact h
 ·simp
theorem grown_obj {w:World}{B:Nat}(o:Obj):w.grownBy {w with heap:=w.heap.setIfInBounds B o} (some B):=
 ⟨rfl,rfl,rfl,by simp,fun b hb hn=>by
   have:B≠b:=fun e=>hn (by rw[e])
   simp[this]⟩
theorem SetP.put {w:World}{B:Nat}{K:List PK}(h:SetP w B K)(p:PK)(hp:Pln w p.1):∃w',(Instr.mapUpdate 121 (.map (some B)) (pkV p) (.agg #[])).run Tryz.prog w=.ok () w'∧SetP w' B (addP K p)∧w.grownBy w' (some B):=by
 obtain⟨es,clock,hb,hk⟩:=h.ex
 have hf:=h.find hb p hp
 rw[setKeys] at hf
 have hc:=plCheck false p w
 have hlt:=lt_of_block hb
 have hn:∀q:PK,Pln w q.1→B≠q.1:=by
  rintro q ⟨cs,e,hq⟩ rfl
  rw[hb] at hq;cases hq
 have pl:∀(o:Obj) (q:PK),Pln w q.1→Pln {w with heap:=w.heap.setIfInBounds B o} q.1:=by
  intro o q hq
  have hne:=hn q hq
  refine hq.keeps ?_
  simp[hne]
 rcases hf with⟨h1,h2⟩|⟨h1,j,e,h2,h3,h4⟩
 ·refine⟨{w with heap:=w.heap.setIfInBounds B (.map (es.push {key:=pkV p,val:=.agg #[],born:=clock}) (clock+1))},?_,⟨⟨es.push {key:=pkV p,val:=.agg #[],born:=clock},clock+1,?_,?_⟩,?_⟩,grown_obj _⟩
  ·simp only[Instr.mapUpdate,Sem.run_bind,run_underlying Tryz.underlying121,Result.andThen_ok,MapKept.run_getObj_map hb,hc,h2,MapKept.run_setObj_map _ hb]
  ·simp[hlt]
  ·simp[addP,h1] at hk⊢
   exact hk
  ·intro q hq
   obtain⟨r,hr,rfl⟩:=List.mem_map.1 hq
   rcases mem_addP.1 hr with hr | rfl
   ·exact pl _ _ (h.pl hr)
   ·exact pl _ _ hp
 ·have hv:=SetP.val hk (List.mem_of_getElem? h2)
  have hj:es[j]? =some e:=by simpa using h2
  refine⟨{w with heap:=w.heap.setIfInBounds B (.map (es.modify j fun e=>{e with key:=pkV p,val:=.agg #[]}) clock)},?_,⟨⟨es.modify j fun e=>{e with key:=pkV p,val:=.agg #[]},clock,?_,?_⟩,?_⟩,grown_obj _⟩
  ·simp only[Instr.mapUpdate,Sem.run_bind,run_underlying Tryz.underlying121,Result.andThen_ok,MapKept.run_getObj_map hb,hc,h4,hj,Option.map_some,Option.getD_some,h3,Instr.keyThatStays,sameBits_pk,if_true,Sem.run_pure,MapKept.run_setObj_map _ hb]
  ·simp[hlt]
  ·have e0:addP K p=K:=by simp[addP,h1]
   rw[e0,←hk]
   refine List.ext_getElem? fun i=> ?_
   simp only[List.getElem?_map,Array.getElem?_toList,Array.getElem?_modify]
   by_cases hi:j=i
   ·subst hi
    simp[hj,h3,hv]
   ·simp[hi]
  ·intro q hq
   obtain⟨r,hr,rfl⟩:=List.mem_map.1 hq
   rcases mem_addP.1 hr with hr | rfl
   ·exact pl _ _ (h.pl hr)
   ·exact pl _ _ hp
namespace Par
theorem bind_no {α β:Type}{x:Res α}{f:α→List Tok→Res β}{c:Int}{q:Nat}(h:x.bind f=.no c q):x=.no c q∨∃a s,x=.ok a s∧f a s=.no c q:=by
 cases x with
 | ok a s=>exact .inr ⟨a,s,rfl,h⟩
 | no c' q'=>cases h;exact .inl rfl
def Bad {α:Type}(P:List Tok→Res α):Prop:=∀ts c q,P ts=.no c q→c=1∨c=2
theorem must_bad (e:Nat)(s:List UInt8):Bad (must e s):=by
 intro ts c q h
 unfold must at h
 split at h
 ·cases h
 ·cases h;exact .inl rfl
theorem name_bad (e:Nat):Bad (nameR e):=by
 intro ts c q h
 unfold nameR at h
 split at h
 ·cases h
 ·cases h;exact .inl rfl
theorem listF_bad {α:Type}{e:Nat}{s:List UInt8}{P:List Tok→Res α}(hP:Bad P):∀m acc,Bad (listF e s P m acc):=by
 intro m
 induction m with
 | zero=>
  intro acc ts c q h
  unfold listF at h
  split at h
  ·cases h;exact .inr rfl
  ·cases h
 | succ m ih=>
  intro acc ts c q h
  unfold listF at h
  split at h
  ·rcases bind_no h with h |⟨b,u,h1,h2⟩
   ·exact hP _ _ _ h
   ·exact ih _ _ _ _ h2
  ·cases h
theorem listR_bad {α:Type}{e:Nat}{s:List UInt8}{m:Nat}{P:List Tok→Res α}(hP:Bad P):Bad (listR e s m P):=by
 intro ts c q h
 rcases bind_no h with h |⟨b,u,h1,h2⟩
 ·exact hP _ _ _ h
 ·exact listF_bad hP _ _ _ _ _ h2
theorem encl_bad {α:Type}{e:Nat}{o s c:List UInt8}{m:Nat}{P:List Tok→Res α}(hP:Bad P):Bad (encl e o s c m P):=by
 intro ts cc q h
 rcases bind_no h with h |⟨b,u,h1,h2⟩
 ·exact must_bad _ _ _ _ _ h
 rcases bind_no h2 with h |⟨l,v,h3,h4⟩
 ·split at h
  ·cases h
  ·exact listR_bad hP _ _ _ h
 rcases bind_no h4 with h |⟨l2,v2,h5,h6⟩
 ·exact must_bad _ _ _ _ _ h
 ·cases h6
theorem policy_bad (e:Nat):Bad (policyR e):=by
 intro ts c q h
 rcases bind_no h with h |⟨b,u,h1,h2⟩
 ·exact name_bad _ _ _ _ h
 rcases bind_no h2 with h |⟨l,v,h3,h4⟩
 ·exact must_bad _ _ _ _ _ h
 split at h4
 ·rcases bind_no h4 with h |⟨l2,v2,h5,h6⟩
  ·exact listR_bad (name_bad e) _ _ _ h
  ·cases h6
 ·cases h4
theorem label_bad (e:Nat):Bad (labelR e):=fun ts c q h=>encl_bad (policy_bad e) ts c q h
theorem loopF_bad {Q:List Tok→Res Tr}{lv:Nat}(hQ:Bad Q):∀f x,Bad (loopF Q lv f x):=by
 intro f
 induction f with
 | zero=>intro x ts c q h;cases h
 | succ f ih=>
  intro x ts c q h
  unfold loopF at h
  split at h
  ·rcases bind_no h with h |⟨b,u,h1,h2⟩
   ·exact hQ _ _ _ h
   ·exact ih _ _ _ _ h2
  ·cases h
theorem bd_bad {P:List Tok→Res Tr}(hP:Bad P):∀j,Bad (bd P j):=by
 intro j
 induction j with
 | zero=>exact hP
 | succ j ih=>
  intro ts c q h
  rcases bind_no h with h |⟨b,u,h1,h2⟩
  ·exact ih _ _ _ h
  ·exact loopF_bad ih _ _ _ _ _ h2
theorem named_bad {e:Nat}{E:List Tok→Res Tr}(hE:Bad E):Bad (namedR e E):=by
 intro ts c q h
 unfold namedR at h
 split at h
 ·rcases bind_no h with h |⟨b,u,h1,h2⟩
  ·exact encl_bad hE _ _ _ h
  ·cases h2
 ·cases h
theorem inn_bad {e:Nat}{E:List Tok→Res Tr}(hE:Bad E):Bad (innR e E):=by
 intro ts c q h
 rcases bind_no h with h |⟨b,u,h1,h2⟩
 ·exact must_bad _ _ _ _ _ h
 rcases bind_no h2 with h |⟨l,v,h3,h4⟩
 ·exact hE _ _ _ h
 rcases bind_no h4 with h |⟨l2,v2,h5,h6⟩
 ·exact must_bad _ _ _ _ _ h
 ·cases h6
theorem rel_bad {e:Nat}{E:List Tok→Res Tr}(hE:Bad E):Bad (relR e E):=by
 intro ts c q h
 rcases bind_no h with h |⟨_,r1,h1,h⟩
 ·exact must_bad _ _ _ _ _ h
 rcases bind_no h with h |⟨_,r2,h2,h⟩
 ·exact hE _ _ _ h
 rcases bind_no h with h |⟨_,r3,h3,h⟩
 ·exact must_bad _ _ _ _ _ h
 rcases bind_no h with h |⟨_,r4,h4,h⟩
 ·exact label_bad _ _ _ _ h
 rcases bind_no h with h |⟨_,r5,h5,h⟩
 ·exact must_bad _ _ _ _ _ h
 cases h
theorem primF_bad {e:Nat}{E P:List Tok→Res Tr}(hE:Bad E)(hP:Bad P):Bad (primF e E P):=by
 intro ts c q h
 unfold primF at h
 split at h
 ·cases h
 split at h
 ·exact named_bad hE _ _ _ h
 split at h
 ·exact rel_bad hE _ _ _ h
 split at h
 ·rcases bind_no h with h |⟨b,u,h1,h2⟩
  ·exact hP _ _ _ h
  ·cases h2
 split at h
 ·cases h
 split at h
 ·cases h
 exact inn_bad hE _ _ _ h
theorem prim_bad (e:Nat):∀k,Bad (prim e k):=by
 intro k
 induction k with
 | zero=>intro ts c q h;cases h;exact .inr rfl
 | succ k ih=>exact primF_bad (bd_bad ih 5) ih
theorem expr_bad (e k:Nat):Bad (exprR e k):=bd_bad (prim_bad e k) 5
def restR {α:Type}(e:Nat)(a:α)(r:List Tok):Res α:=if r.isEmpty=true then .ok a [] else .no 1 (atP e r)
def wholeF {α:Type}(R:Nat→List Tok→Res α)(l:List UInt8):Res α:=
 if(Lex.scanAll l).2.1≠0 then .no (Lex.scanAll l).2.1 (Lex.scanAll l).2.2 else(R l.length (Lex.scanAll l).1).bind fun a r=>restR l.length a r
theorem whole_bad {α:Type}{R:Nat→List Tok→Res α}(hR:∀e,Bad (R e))(l:List UInt8){c:Int}{q:Nat}(h:wholeF R l=.no c q):c≠0:=by
 unfold wholeF at h
 split at h
 ·rename_i hc
  cases h;exact hc
 ·rcases bind_no h with h |⟨a,r,h1,h2⟩
  ·rcases hR _ _ _ _ h with rfl | rfl<;>decide
  ·unfold restR at h2
   split at h2
   ·cases h2
   ·cases h2;decide
theorem whole_scan {α:Type}{R:Nat→List Tok→Res α}{l:List UInt8}{ts:List Tok}{c:Int}{q:Nat}(h:Lex.scanAll l=(ts,c,q))(hc:c≠0):wholeF R l=.no c q:=by
 unfold wholeF;rw[h];simp[hc]
theorem whole_read {α:Type}{R:Nat→List Tok→Res α}{l:List UInt8}{ts:List Tok}{q:Nat}(h:Lex.scanAll l=(ts,0,q)):wholeF R l=(R l.length ts).bind fun a r=>restR l.length a r:=by
 unfold wholeF;rw[h];simp
end Par
namespace Par
inductive Stm where
 | mk (k p:Int) (s o:ByteArray) (d:Bool) (l:List Po) (e:Tr) (a b:List Stm)
structure Prm where
 name:ByteArray
 type:Int
 lab:List Po
structure Chn where
 at_:Int
 name:ByteArray
 inw:Bool
 type:Int
 lab:List Po
structure Prc where
 at_:Int
 name:ByteArray
 params:List Prm
 result:Prm
 begin_:List Po
 for_:List ByteArray
 body:List Stm
structure Prg where
 chiefs:List ByteArray
 acts:List (ByteArray×ByteArray)
 chans:List Chn
 procs:List Prc
def noE:Tr:=.mk 0 0 0 0 (ba []) [] []
def noP:Prm:=⟨ba [],0,[]⟩
def wChief:List UInt8:=[99,104,105,101,102]
def wActs:List UInt8:=[97,99,116,115]
def wIn:List UInt8:=[105,110]
def wOut:List UInt8:=[111,117,116]
def wProc:List UInt8:=[112,114,111,99]
def wInt:List UInt8:=[105,110,116]
def wBool:List UInt8:=[98,111,111,108]
def wBegin:List UInt8:=[98,101,103,105,110]
def wFor:List UInt8:=[102,111,114]
def wIf:List UInt8:=[105,102]
def wWhile:List UInt8:=[119,104,105,108,101]
def wElse:List UInt8:=[101,108,115,101]
def wVar:List UInt8:=[118,97,114]
def wSend:List UInt8:=[115,101,110,100]
def wTake:List UInt8:=[116,97,107,101]
def wDo:List UInt8:=[100,111]
def wReturn:List UInt8:=[114,101,116,117,114,110]
def typeR (e:Nat)(ts:List Tok):Res Int:=if isT wInt ts=true then .ok 1 ts.tail else(must e wBool ts).bind fun _ r=>.ok 2 r
def kindR (e:Nat)(ts:List Tok):Res (Int×List Po):=(must e [58] ts).bind fun _ r1=>(typeR e r1).bind fun t r2=>(labelR e r2).bind fun l r3=>.ok (t,l) r3
def paramR (e:Nat)(ts:List Tok):Res Prm:=(nameR e ts).bind fun s r1=>(kindR e r1).bind fun k r2=>.ok ⟨s,k.1,k.2⟩ r2
def chiefR (e:Nat)(ts:List Tok):Res ByteArray:=(must e wChief ts).bind fun _ r1=>(nameR e r1).bind fun s r2=>(must e [59] r2).bind fun _ r3=>.ok s r3
def actsR (e:Nat)(ts:List Tok):Res (ByteArray×ByteArray):=(must e wActs ts).bind fun _ r1=>(nameR e r1).bind fun s r2=>(nameR e r2).bind fun t r3=>(must e [59] r3).bind fun _ r4=>.ok (s,t) r4
def chanR (e:Nat)(ts:List Tok):Res Chn:=(paramR e ts.tail).bind fun q r1=>(must e [59] r1).bind fun _ r2=>.ok ⟨(nx ts).2.1,q.name,(nx ts).2.2==wIn,q.type,q.lab⟩ r2
def bodyF (e:Nat)(S:List Tok→Res Stm):Nat→List Stm→List Tok→Res (List Stm)
 | 0,acc,ts=>if isT [125] ts=true then .ok acc ts.tail else .no 2 (atP e ts)
 | m+1,acc,ts=>if isT [125] ts=true then .ok acc ts.tail else(S ts).bind fun s r=>bodyF e S m (acc++[s]) r
def callR (e p:Nat)(s:ByteArray)(ts:List Tok):Res Tr:=(encl e [40] [44] [41] 4 (exprR e 12) ts).bind fun a r=>.ok (.mk 4 p 0 0 s [] a) r
def semi (e:Nat)(s:Stm)(ts:List Tok):Res Stm:=(must e [59] ts).bind fun _ r=>.ok s r
def ifR (e:Nat)(B:List Tok→Res (List Stm))(ts:List Tok):Res Stm:=
 (exprR e 12 ts.tail).bind fun x r1=>(B r1).bind fun a r2=>
  if isT wElse r2=true then(B r2.tail).bind fun b r3=>.ok (.mk 3 (nx ts).2.1 (ba []) (ba []) false [] x a b) r3 else .ok (.mk 3 (nx ts).2.1 (ba []) (ba []) false [] x a []) r2
def whileR (e:Nat)(B:List Tok→Res (List Stm))(ts:List Tok):Res Stm:=
 (exprR e 12 ts.tail).bind fun x r1=>(B r1).bind fun a r2=>.ok (.mk 4 (nx ts).2.1 (ba []) (ba []) false [] x a []) r2
def bearsR (e:Nat)(ts:List Tok):Res (Bool×List Po):=if isT [123] ts=true then(labelR e ts).bind fun l r=>.ok (true,l) r else .ok (false,[]) ts
def letR (e:Nat)(ts:List Tok):Res Stm:=
 (nameR e ts.tail).bind fun s r1=>(bearsR e r1).bind fun d r2=>(must e [61] r2).bind fun _ r3=>(exprR e 12 r3).bind fun x r4=>semi e (.mk 1 (nx ts).2.1 s (ba []) d.1 d.2 x [] []) r4
def sendR (e:Nat)(ts:List Tok):Res Stm:=(nameR e ts.tail).bind fun s r1=>(exprR e 12 r1).bind fun x r2=>semi e (.mk 5 (nx ts).2.1 s (ba []) false [] x [] []) r2
def takeR (e:Nat)(ts:List Tok):Res Stm:=(nameR e ts.tail).bind fun s r1=>(nameR e r1).bind fun o r2=>semi e (.mk 6 (nx ts).2.1 s o false [] noE [] []) r2
def doR (e:Nat)(ts:List Tok):Res Stm:=(nameR e ts.tail).bind fun s r1=>(callR e (atP e ts.tail) s r1).bind fun x r2=>semi e (.mk 7 (nx ts).2.1 (ba []) (ba []) false [] x [] []) r2
def returnR (e:Nat)(ts:List Tok):Res Stm:=(exprR e 12 ts.tail).bind fun x r1=>semi e (.mk 8 (nx ts).2.1 (ba []) (ba []) false [] x [] []) r1
def setR (e:Nat)(ts:List Tok):Res Stm:=(nameR e ts).bind fun s r1=>(must e [61] r1).bind fun _ r2=>(exprR e 12 r2).bind fun x r3=>semi e (.mk 2 (atP e ts) s (ba []) false [] x [] []) r3
def stmF (e:Nat)(B:List Tok→Res (List Stm))(ts:List Tok):Res Stm:=
 if(nx ts).2.2=wIf then ifR e B ts else if(nx ts).2.2=wWhile then whileR e B ts else if(nx ts).2.2=wVar then letR e ts
 else if(nx ts).2.2=wSend then sendR e ts else if(nx ts).2.2=wTake then takeR e ts else if(nx ts).2.2=wDo then doR e ts
 else if(nx ts).2.2=wReturn then returnR e ts else setR e ts
def block (e:Nat):Nat→List Tok→Res (List Stm)
 | 0,ts=>(must e [123] ts).bind fun _ r=>.no 2 (atP e r)
 | k+1,ts=>(must e [123] ts).bind fun _ r=>bodyF e (stmF e (block e k)) 20 [] r
def resultR (e:Nat)(ts:List Tok):Res Prm:=if isT [58] ts=true then(kindR e ts).bind fun k r=>.ok ⟨ba [],k.1,k.2⟩ r else .ok noP ts
def beginR (e:Nat)(ts:List Tok):Res (List Po):=if isT wBegin ts=true then labelR e ts.tail else .ok [] ts
def forR (e:Nat)(ts:List Tok):Res (List ByteArray):=if isT wFor ts=true then listR e [44] 6 (nameR e) ts.tail else .ok [] ts
def procR (e:Nat)(ts:List Tok):Res Prc:=
 (must e wProc ts).bind fun p r1=>(nameR e r1).bind fun s r2=>(encl e [40] [44] [41] 4 (paramR e) r2).bind fun q r3=>(resultR e r3).bind fun t r4=>
  (beginR e r4).bind fun b r5=>(forR e r5).bind fun f r6=>(block e 12 r6).bind fun y r7=>.ok ⟨p,s,q,t,b,f,y⟩ r7
def moreR {α:Type}(e m:Nat)(l:List α)(P:List Tok→Res α)(ts:List Tok):Res (List α):=if l.length=m then .no 2 (atP e ts) else(P ts).bind fun a r=>.ok (l++[a]) r
def partR (e:Nat)(p:Prg)(ts:List Tok):Res Prg:=
 if(nx ts).2.2=wChief then(moreR e 6 p.chiefs (chiefR e) ts).bind fun l r=>.ok {p with chiefs:=l} r
 else if(nx ts).2.2=wActs then(moreR e 10 p.acts (actsR e) ts).bind fun l r=>.ok {p with acts:=l} r
 else if(nx ts).2.2=wIn∨(nx ts).2.2=wOut then(moreR e 6 p.chans (chanR e) ts).bind fun l r=>.ok {p with chans:=l} r
 else if(nx ts).2.2=wProc then(moreR e 6 p.procs (procR e) ts).bind fun l r=>.ok {p with procs:=l} r
 else .no 1 (atP e ts)
def progF (e:Nat):Nat→Prg→List Tok→Res Prg
 | 0,p,ts=>.ok p ts
 | f+1,p,ts=>if ts.isEmpty=true then .ok p [] else(partR e p ts).bind fun q r=>progF e f q r
def progR (e:Nat)(ts:List Tok):Res Prg:=progF e ts.length ⟨[],[],[],[]⟩ ts
def readP (l:List UInt8):Res Prg:=wholeF progR l
theorem bind_sfx {α β:Type}{x:Res α}{f:α→List Tok→Res β}{ts:List Tok}(hx:∀a r,x=.ok a r→r<:+ts)(hf:∀a,Sfx (f a)):∀b r,x.bind f=.ok b r→r<:+ts:=by
 intro b r h
 obtain⟨a,s,h1,h2⟩:=bind_ok h
 exact(hf a s b r h2).trans (hx a s h1)
theorem ok_sfx {α β:Type}(f:α→β)(a:α):Sfx (fun r=>Res.ok (f a) r):=fun ts b r h=>by cases h;exact List.suffix_refl ts
theorem tail_of {α:Type}{P:List Tok→Res α}(h:Sfx P)(ts:List Tok):∀a r,P ts.tail=.ok a r→r<:+ts:=fun a r g=>(h _ a r g).trans (tail_sfx ts)
theorem type_sfx (e:Nat):Sfx (typeR e):=by
 intro ts a r h
 unfold typeR at h
 split at h
 ·cases h;exact tail_sfx ts
 ·exact bind_sfx (must_sfx e wBool ts) (fun _=>ok_sfx (fun _=>2) 0) a r h
theorem kind_sfx (e:Nat):Sfx (kindR e):=fun ts=>bind_sfx (must_sfx e [58] ts) fun _ r1=>bind_sfx (type_sfx e r1) fun t r2=>bind_sfx (label_sfx e r2) fun _=>ok_sfx (fun l=>(t,l)) _
theorem param_sfx (e:Nat):Sfx (paramR e):=fun ts=>bind_sfx (name_sfx e ts) fun s r1=>bind_sfx (kind_sfx e r1) fun _=>ok_sfx (fun k:Int×List Po=>(⟨s,k.1,k.2⟩:Prm)) _
theorem chief_sfx (e:Nat):Sfx (chiefR e):=fun ts=>bind_sfx (must_sfx e wChief ts) fun _ r1=>bind_sfx (name_sfx e r1) fun s r2=>bind_sfx (must_sfx e [59] r2) fun _=>ok_sfx (fun _=>s) 0
theorem acts_sfx (e:Nat):Sfx (actsR e):=fun ts=>bind_sfx (must_sfx e wActs ts) fun _ r1=>bind_sfx (name_sfx e r1) fun s r2=>bind_sfx (name_sfx e r2) fun t r3=>bind_sfx (must_sfx e [59] r3) fun _=>ok_sfx (fun _=>(s,t)) 0
theorem chan_sfx (e:Nat):Sfx (chanR e):=fun ts=>bind_sfx (tail_of (param_sfx e) ts) fun q r1=>bind_sfx (must_sfx e [59] r1) fun _=>ok_sfx (fun _=>(⟨(nx ts).2.1,q.name,(nx ts).2.2==wIn,q.type,q.lab⟩:Chn)) 0
theorem semi_sfx (e:Nat)(s:Stm):Sfx (semi e s):=fun ts=>bind_sfx (must_sfx e [59] ts) fun _=>ok_sfx (fun _=>s) 0
theorem body_sfx {e:Nat}{S:List Tok→Res Stm}(hS:Sfx S):∀m acc,Sfx (bodyF e S m acc):=by
 intro m
 induction m with
 | zero=>
  intro acc ts a r h
  unfold bodyF at h
  split at h
  ·cases h;exact tail_sfx ts
  ·cases h
 | succ m ih=>
  intro acc ts a r h
  unfold bodyF at h
  split at h
  ·cases h;exact tail_sfx ts
  ·exact bind_sfx (hS ts) (fun s=>ih (acc++[s])) a r h
theorem call_sfx (e p:Nat)(s:ByteArray):Sfx (callR e p s):=fun ts=>bind_sfx (encl_sfx (expr_sfx e 12) ts) fun _=>ok_sfx (fun a=>Tr.mk 4 p 0 0 s [] a) _
theorem if_sfx {e:Nat}{B:List Tok→Res (List Stm)}(hB:Sfx B):Sfx (ifR e B):=fun ts=>bind_sfx (tail_of (expr_sfx e 12) ts) fun x r1=>bind_sfx (hB r1) fun a r2 b r h=>by
 split at h
 ·exact bind_sfx (tail_of hB r2) (fun _=>ok_sfx (fun b=>Stm.mk 3 (nx ts).2.1 (ba []) (ba []) false [] x a b) _) b r h
 ·cases h;exact List.suffix_refl r2
theorem while_sfx {e:Nat}{B:List Tok→Res (List Stm)}(hB:Sfx B):Sfx (whileR e B):=fun ts=>bind_sfx (tail_of (expr_sfx e 12) ts) fun x r1=>bind_sfx (hB r1) fun _=>ok_sfx (fun a=>Stm.mk 4 (nx ts).2.1 (ba []) (ba []) false [] x a []) _
theorem bears_sfx (e:Nat):Sfx (bearsR e):=by
 intro ts a r h
 unfold bearsR at h
 split at h
 ·exact bind_sfx (label_sfx e ts) (fun _=>ok_sfx (fun l=>(true,l)) _) a r h
 ·cases h;exact List.suffix_refl ts
theorem let_sfx (e:Nat):Sfx (letR e):=fun ts=>bind_sfx (tail_of (name_sfx e) ts) fun _ r1=>bind_sfx (bears_sfx e r1) fun _ r2=>bind_sfx (must_sfx e [61] r2) fun _ r3=>bind_sfx (expr_sfx e 12 r3) fun _=>semi_sfx e _
theorem send_sfx (e:Nat):Sfx (sendR e):=fun ts=>bind_sfx (tail_of (name_sfx e) ts) fun _ r1=>bind_sfx (expr_sfx e 12 r1) fun _=>semi_sfx e _
theorem take_sfx (e:Nat):Sfx (takeR e):=fun ts=>bind_sfx (tail_of (name_sfx e) ts) fun _ r1=>bind_sfx (name_sfx e r1) fun _=>semi_sfx e _
theorem do_sfx (e:Nat):Sfx (doR e):=fun ts=>bind_sfx (tail_of (name_sfx e) ts) fun s r1=>bind_sfx (call_sfx e (atP e ts.tail) s r1) fun _=>semi_sfx e _
theorem return_sfx (e:Nat):Sfx (returnR e):=fun ts=>bind_sfx (tail_of (expr_sfx e 12) ts) fun _=>semi_sfx e _
theorem set_sfx (e:Nat):Sfx (setR e):=fun ts=>bind_sfx (name_sfx e ts) fun _ r1=>bind_sfx (must_sfx e [61] r1) fun _ r2=>bind_sfx (expr_sfx e 12 r2) fun _=>semi_sfx e _
theorem stm_sfx {e:Nat}{B:List Tok→Res (List Stm)}(hB:Sfx B):Sfx (stmF e B):=by
 intro ts a r h
 unfold stmF at h
 split at h;· exact if_sfx hB ts a r h
 split at h;· exact while_sfx hB ts a r h
 split at h;· exact let_sfx e ts a r h
 split at h;· exact send_sfx e ts a r h
 split at h;· exact take_sfx e ts a r h
 split at h;· exact do_sfx e ts a r h
 split at h;· exact return_sfx e ts a r h
 exact set_sfx e ts a r h
theorem block_sfx (e:Nat):∀k,Sfx (block e k):=by
 intro k
 induction k with
 | zero=>
  intro ts a r h
  obtain⟨_,_,_,h2⟩:=bind_ok h
  cases h2
 | succ k ih=>exact fun ts=>bind_sfx (must_sfx e [123] ts) fun _=>body_sfx (stm_sfx ih) 20 []
theorem result_sfx (e:Nat):Sfx (resultR e):=by
 intro ts a r h
 unfold resultR at h
 split at h
 ·exact bind_sfx (kind_sfx e ts) (fun _=>ok_sfx (fun k:Int×List Po=>(⟨ba [],k.1,k.2⟩:Prm)) _) a r h
 ·cases h;exact List.suffix_refl ts
theorem begin_sfx (e:Nat):Sfx (beginR e):=by
 intro ts a r h
 unfold beginR at h
 split at h
 ·exact tail_of (label_sfx e) ts a r h
 ·cases h;exact List.suffix_refl ts
theorem for_sfx (e:Nat):Sfx (forR e):=by
 intro ts a r h
 unfold forR at h
 split at h
 ·exact tail_of (listR_sfx (name_sfx e)) ts a r h
 ·cases h;exact List.suffix_refl ts
def Eats {α:Type}(P:List Tok→Res α):Prop:=∀ts a r,P ts=.ok a r→r.length<ts.length
theorem len_sfx {a b:List Tok}(h:a<:+b):a.length≤b.length:=h.length_le
theorem must_eats {e:Nat}{s:List UInt8}(hs:s≠[]):Eats (must e s):=by
 intro ts a r h
 unfold must at h
 split at h
 ·rename_i hi
  cases h
  cases ts with
  | nil=>
   unfold isT nx at hi
   simp at hi
   exact absurd hi hs
  | cons t q=>simp
 ·cases h
theorem bind_eats {α β:Type}{P:List Tok→Res α}{f:α→List Tok→Res β}(hP:Eats P)(hf:∀a,Sfx (f a)):Eats (fun ts=>(P ts).bind f):=by
 intro ts b r h
 obtain⟨a,s,h1,h2⟩:=bind_ok h
 have:=hP ts a s h1
 have:=len_sfx (hf a s b r h2)
 omega
theorem chief_eats (e:Nat):Eats (chiefR e):=bind_eats (must_eats (by decide)) fun _ r1=>bind_sfx (name_sfx e r1) fun s r2=>bind_sfx (must_sfx e [59] r2) fun _=>ok_sfx (fun _=>s) 0
theorem acts_eats (e:Nat):Eats (actsR e):=bind_eats (must_eats (by decide)) fun _ r1=>bind_sfx (name_sfx e r1) fun s r2=>bind_sfx (name_sfx e r2) fun t r3=>bind_sfx (must_sfx e [59] r3) fun _=>ok_sfx (fun _=>(s,t)) 0
theorem proc_eats (e:Nat):Eats (procR e):=bind_eats (must_eats (by decide)) fun p r1=>bind_sfx (name_sfx e r1) fun s r2=>bind_sfx (encl_sfx (param_sfx e) r2) fun q r3=>bind_sfx (result_sfx e r3) fun t r4=>bind_sfx (begin_sfx e r4) fun b r5=>bind_sfx (for_sfx e r5) fun f r6=>bind_sfx (block_sfx e 12 r6) fun _=>ok_sfx (fun y=>(⟨p,s,q,t,b,f,y⟩:Prc)) _
theorem chan_eats (e:Nat){ts:List Tok}(h0:ts≠[]){a:Chn}{r:List Tok}(h:chanR e ts=.ok a r):r.length<ts.length:=by
 have h1:r<:+ts.tail:=bind_sfx (param_sfx e ts.tail) (fun q r1=>bind_sfx (must_sfx e [59] r1) fun _=>ok_sfx (fun _=>(⟨(nx ts).2.1,q.name,(nx ts).2.2==wIn,q.type,q.lab⟩:Chn)) 0) a r h
 have h2:=len_sfx h1
 cases ts with
 | nil=>exact absurd rfl h0
 | cons t q=>simp at h2⊢;omega
theorem more_of {α:Type}{e m:Nat}{l l':List α}{P:List Tok→Res α}{ts r:List Tok}(h:moreR e m l P ts=.ok l' r):∃a,P ts=.ok a r∧l'=l++[a]∧l.length≠m:=by
 unfold moreR at h
 split at h
 ·cases h
 ·obtain⟨a,s,h1,h2⟩:=bind_ok h
  cases h2
  exact⟨a,h1,rfl,‹_›⟩
theorem part_eats (e:Nat)(p:Prg){ts:List Tok}(h0:ts≠[]){q:Prg}{r:List Tok}(h:partR e p ts=.ok q r):r.length<ts.length:=by
 unfold partR at h
 split at h
 ·obtain⟨_,_,h1,h2⟩:=bind_ok h
  cases h2
  obtain⟨a,h3,_⟩:=more_of h1
  exact chief_eats e ts a r h3
 split at h
 ·obtain⟨_,_,h1,h2⟩:=bind_ok h
  cases h2
  obtain⟨a,h3,_⟩:=more_of h1
  exact acts_eats e ts a r h3
 split at h
 ·obtain⟨_,_,h1,h2⟩:=bind_ok h
  cases h2
  obtain⟨a,h3,_⟩:=more_of h1
  exact chan_eats e h0 h3
 split at h
 ·obtain⟨_,_,h1,h2⟩:=bind_ok h
  cases h2
  obtain⟨a,h3,_⟩:=more_of h1
  exact proc_eats e ts a r h3
 ·cases h
theorem progF_fuel (e:Nat):∀f g p ts,ts.length≤f→ts.length≤g→progF e f p ts=progF e g p ts:=by
 intro f
 induction f with
 | zero=>
  intro g p ts hf _
  have:ts=[]:=List.length_eq_zero_iff.1 (by omega)
  subst this
  cases g<;>simp[progF]
 | succ f ih=>
  intro g p ts hf hg
  cases g with
  | zero=>
   have:ts=[]:=List.length_eq_zero_iff.1 (by omega)
   subst this
   simp[progF]
  | succ g=>
   unfold progF
   split
   ·rfl
   ·rename_i hne
    have h0:ts≠[]:=by intro e0;subst e0;simp at hne
    cases hp:partR e p ts with
    | no c q=>rfl
    | ok q r=>
     have:=part_eats e p h0 hp
     exact ih g q r (by omega) (by omega)
theorem prog_step (e:Nat)(p:Prg){t:Tok}{r:List Tok}:progF e (t::r).length p (t::r)=(partR e p (t::r)).bind fun q s=>progF e s.length q s:=by
 show(if(t::r).isEmpty=true then _ else _)=_
 rw[if_neg (by simp)]
 cases hp:partR e p (t::r) with
 | no c q=>rfl
 | ok q s=>
  have:=part_eats e p (by simp) hp
  exact progF_fuel e _ _ q s (by simp at this;omega) (Nat.le_refl _)
end Par
namespace Rr
open Par (Tr Stm Prm Chn Prc Prg Po ba)
structure Sg where
 steps:Nat
 evs:List Int
 left:List (List Int)
abbrev Env:=List (ByteArray×Int)
def bitI (b:Bool):Int:=if b=true then 1 else 0
def w64 (n:Int):Int:=(n+9223372036854775808) % 18446744073709551616 - 9223372036854775808
def reck (s:List UInt8)(a b:Int):Option Int:=
 if s=[124,124] then some (bitI (a !=0 || b !=0))
 else if s=[38,38] then some (bitI (a !=0 && b !=0))
 else if s=[61,61] then some (bitI (a==b))
 else if s=[33,61] then some (bitI (a !=b))
 else if s=[60] then some (bitI (decide (a<b)))
 else if s=[60,61] then some (bitI (decide (a≤b)))
 else if s=[62] then some (bitI (decide (b<a)))
 else if s=[62,61] then some (bitI (decide (b≤a)))
 else if s=[43] then some (w64 (a+b))
 else if s=[45] then some (w64 (a - b))
 else if s=[42] then some (w64 (a*b))
 else if s=[47] then some (if b=0 then 0 else w64 (a.tdiv b))
 else if s=[37] then some (if b=0 then 0 else a.tmod b)
 else none
def findE:Env→ByteArray→Option Int
 |[],_=>none
 | x::l,s=>if x.1=s then some x.2 else findE l s
def putE:Env→ByteArray→Int→Option Env
 |[],_,_=>none
 | x::l,s,n=>if x.1=s then some ((x.1,n)::l) else(putE l s n).map (x::·)
def findP:List Prc→ByteArray→Option Prc
 |[],_=>none
 | p::l,s=>if p.name=s then some p else findP l s
def findC:List Chn→ByteArray→Nat→Option (Nat×Chn)
 |[],_,_=>none
 | c::l,s,i=>if c.name=s then some (i,c) else findC l s (i+1)
def stepF (fuel:Nat)(g:Sg):Option Sg:=if g.steps<fuel then some {g with steps:=g.steps+1} else none
def seqV (f:Tr→Sg→Option (Int×Sg)):List Tr→Sg→Option (List Int×Sg)
 |[],g=>some ([],g)
 | x::l,g=>(f x g).bind fun u=>(seqV f l u.2).bind fun v=>some (u.1::v.1,v.2)
def takeF (g:Sg)(i:Nat)(t:Int):Option (Int×Sg):=
 match g.left[i]? with
 | none=>none
 | some []=>some (0,g)
 | some (n::l)=>some (if t=2 then bitI (n !=0) else n,{g with left:=g.left.set i l})
structure Sem where
 val:Nat→Env→Tr→Sg→Option (Int×Sg)
 blk:Nat→Env→Int→List Stm→Sg→Option (Env×Int×Sg)
 whl:Nat→Env→Int→Tr→List Stm→Sg→Option (Env×Int×Sg)
def valF (P:Prg)(fuel:Nat)(S:Sem)(deep:Nat)(env:Env)(x:Tr)(g:Sg):Option (Int×Sg):=
 (stepF fuel g).bind fun g=>match x with
 | .mk k _ n _ s _ a=>
  if k=1 then some (n,g)
  else if k=2 then(findE env s).map (·,g)
  else if k=3 then(seqV (S.val deep env) a g).bind fun u=>match u.1 with
   |[c,d]=>(reck s.data.toList c d).map (·,u.2)
   | _=>none
  else if k=4 then(findP P.procs s).bind fun q=>(seqV (S.val deep env) a g).bind fun u=>
   if deep+1<30∧u.1.length=q.params.length∧q.params.length≤100∧q.body.length≤1000 then(S.blk (deep+1) ((q.params.map (·.name)).zip u.1) 0 q.body u.2).map fun r=>(r.2.1,r.2.2) else none
  else none
def stmF (P:Prg)(fuel:Nat)(S:Sem)(deep:Nat)(env:Env)(back:Int)(s:Stm)(g:Sg):Option (Env×Int×Sg):=
 (stepF fuel g).bind fun g=>match s with
 | .mk k _ s o _ _ e a _=>
  if k=1 then(S.val deep env e g).bind fun u=>if env.length<999 then some (env++[(s,u.1)],back,u.2) else none
  else if k=2 then(S.val deep env e g).bind fun u=>(putE env s u.1).map (·,back,u.2)
  else if k=4 then if a.length≤1000 then(S.whl deep env back e a g).bind fun v=>if env.length≤v.1.length then some v else none else none
  else if k=5 then(S.val deep env e g).bind fun u=>(findC P.chans s 0).bind fun c=>if c.2.lab.length=0∧s.size≤4000∧u.2.evs.length<u.2.steps then some (env,back,{u.2 with evs:=u.2.evs++[u.1]}) else none
  else if k=6 then(findC P.chans o 0).bind fun c=>(takeF g c.1 c.2.type).bind fun u=>(putE env s u.1).map (·,back,u.2)
  else if k=8 then(S.val deep env e g).map fun u=>(env,u.1,u.2)
  else none
def seqS (f:Env→Int→Stm→Sg→Option (Env×Int×Sg)):Env→Int→List Stm→Sg→Option (Env×Int×Sg)
 | env,b,[],g=>some (env,b,g)
 | env,b,s::l,g=>(f env b s g).bind fun u=>seqS f u.1 u.2.1 l u.2.2
def sem (P:Prg)(fuel:Nat):Nat→Sem
 | 0=>⟨fun _ _ _ _=>none,fun _ _ _ _ _=>none,fun _ _ _ _ _ _=>none⟩
 | m+1=>
  let S:=sem P fuel m
  ⟨valF P fuel S,fun deep env b l g=>(seqS (stmF P fuel S deep) env b l g).map fun u=>(u.1.take env.length,u.2.1,u.2.2),
   fun deep env b e a g=>(S.val deep env e g).bind fun u=>if u.1=0 then some (env,b,u.2) else(S.blk deep env b a u.2).bind fun v=>S.whl deep v.1 v.2.1 e a v.2.2⟩
end Rr
end Go.Proofs.YtepkhlpjgnckkaaGreatDoor
