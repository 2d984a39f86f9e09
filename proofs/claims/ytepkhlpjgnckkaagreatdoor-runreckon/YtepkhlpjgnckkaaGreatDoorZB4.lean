/- What is read is formed, part by part. Plain words. And more of the same. -/
import Derived.Test.YtepkhlpjgnckkaaGreatDoorZB3
import Derived.Defers
import Derived.Recover
namespace Go.Proofs.YtepkhlpjgnckkaaGreatDoor
set_option maxRecDepth 100000
set_option maxHeartbeats 8000000
namespace Lex
theorem name_tok {t:List UInt8}(h:Good 1 t):nameF t=true:=by
 obtain⟨h0,_,_,h3⟩:=h
 have h4:=h3 [] (.inl rfl)
 rw[List.append_nil] at h4
 unfold firstF at h4
 split at h4
 ·rename_i ha
  unfold lettersF at h4
  split at h4
  ·simp at h4
  ·rename_i h12
   split at h4
   ·simp at h4
   ·rename_i hw
    have e:t.take (runLen nameB t)=t:=by simp only[Prod.mk.injEq] at h4;exact h4.2.1
    rw[e] at h12 hw
    have hr:runLen nameB t=t.length:=by
     have h5:=congrArg List.length e
     have h6:=runLen_le nameB t
     rw[List.length_take] at h5
     omega
    rw[nameF_end h0 (by omega) ha hr]
    simpa using hw
 ·split at h4
  ·unfold digitsF at h4
   split at h4<;>simp at h4
  ·split at h4<;>simp at h4
theorem name_size {l:List UInt8}(h:nameF l=true):l.length≤12:=by
 apply Classical.byContradiction
 intro hn
 rw[nameF_long hn] at h
 cases h
end Lex
namespace Par
def Fine (ts:List Tok):Prop:=∀t∈ts,Lex.Good t.1 t.2.2
theorem Fine.sfx {ts us:List Tok}(h:Fine ts)(hs:us<:+ts):Fine us:=fun t ht=>h t (hs.subset ht)
theorem Fine.name {ts:List Tok}(h:Fine ts)(h1:(nx ts).1=1):nameOK (ba (nx ts).2.2)=true:=by
 cases ts with
 | nil=>cases h1
 | cons t r=>
  have h2:=h t (by simp)
  have h3:t.1=1:=h1
  rw[h3] at h2
  show Lex.nameF t.2.2.toArray.toList=true
  exact Lex.name_tok h2
def Holds {α:Type}(F:α→Prop)(P:List Tok→Res α):Prop:=∀ts a r,Fine ts→P ts=.ok a r→F a
theorem name_holds (e:Nat):Holds (fun s=>nameOK s=true) (nameR e):=by
 intro ts a r hf h
 unfold nameR at h
 split at h
 ·rename_i h1
  cases h
  exact hf.name h1
 ·cases h
theorem listF_holds {α:Type}{F:α→Prop}{e:Nat}{s:List UInt8}{P:List Tok→Res α}(hS:Sfx P)(hP:Holds F P):∀m acc ts l r,Fine ts→(∀a∈acc,F a)→listF e s P m acc ts=.ok l r→(∀a∈l,F a)∧l.length≤acc.length+m:=by
 intro m
 induction m with
 | zero=>
  intro acc ts l r hf ha h
  unfold listF at h
  split at h
  ·cases h
  ·cases h;exact⟨ha,Nat.le_refl _⟩
 | succ m ih=>
  intro acc ts l r hf ha h
  unfold listF at h
  split at h
  ·obtain⟨b,u,h1,h2⟩:=bind_ok h
   have h3:=hP _ _ _ (hf.sfx (tail_sfx ts)) h1
   have h4:=ih (acc++[b]) _ _ _ ((hf.sfx (tail_sfx ts)).sfx (hS _ _ _ h1)) (fun a hm=>by
    rcases List.mem_append.1 hm with hm | hm
    ·exact ha a hm
    ·rw[List.mem_singleton.1 hm];exact h3) h2
   refine⟨h4.1,?_⟩
   have h5:=h4.2
   simp at h5
   omega
  ·cases h;exact⟨ha,by omega⟩
theorem listR_holds {α:Type}{F:α→Prop}{e:Nat}{s:List UInt8}{m:Nat}(hm:0<m){P:List Tok→Res α}(hS:Sfx P)(hP:Holds F P){ts r:List Tok}{l:List α}(hf:Fine ts)(h:listR e s m P ts=.ok l r):(∀a∈l,F a)∧l.length≤m:=by
 obtain⟨b,u,h1,h2⟩:=bind_ok h
 have h3:=hP _ _ _ hf h1
 have h4:=listF_holds hS hP _ _ _ _ _ (hf.sfx (hS _ _ _ h1)) (fun a ha=>by rw[List.mem_singleton.1 ha];exact h3) h2
 refine⟨h4.1,?_⟩
 have h5:=h4.2
 simp at h5
 omega
theorem encl_holds {α:Type}{F:α→Prop}{e:Nat}{o s c:List UInt8}{m:Nat}(hm:0<m){P:List Tok→Res α}(hS:Sfx P)(hP:Holds F P){ts r:List Tok}{l:List α}(hf:Fine ts)(h:encl e o s c m P ts=.ok l r):(∀a∈l,F a)∧l.length≤m:=by
 obtain⟨b,u,h1,h2⟩:=bind_ok h
 obtain⟨l1,v,h3,h4⟩:=bind_ok h2
 obtain⟨l2,v2,h5,h6⟩:=bind_ok h4
 cases h6
 split at h3
 ·cases h3
  exact⟨(fun a ha=>by cases ha),by simp⟩
 ·exact listR_holds hm hS hP (hf.sfx (must_sfx _ _ _ _ _ h1)) h3
def PolOK (p:Po):Prop:=nameOK p.1=true∧(∀s∈p.2,nameOK s=true)∧p.2.length≤6
theorem policy_holds (e:Nat):Holds PolOK (policyR e):=by
 intro ts a r hf h
 obtain⟨b,u,h1,h2⟩:=bind_ok h
 obtain⟨l,v,h3,h4⟩:=bind_ok h2
 have h5:=name_holds e _ _ _ hf h1
 split at h4
 ·obtain⟨l2,v2,h6,h7⟩:=bind_ok h4
  cases h7
  have h8:=listR_holds (by omega) (name_sfx e) (name_holds e) (((hf.sfx (name_sfx _ _ _ _ h1))).sfx (must_sfx _ _ _ _ _ h3)) h6
  exact⟨h5,h8.1,h8.2⟩
 ·cases h4
  exact⟨h5,(fun s hs=>by cases hs),by simp⟩
theorem ok_size {s:ByteArray}(h:nameOK s=true):s.size≤12:=by
 have:=Lex.name_size h
 simpa using this
theorem lab_ok {l:List Po}(h:∀p∈l,PolOK p)(hl:l.length≤200):labOK l=true:=by
 have h1:l.any longB=false:=by
  rw[List.any_eq_false]
  intro p hp
  obtain⟨a,b,c⟩:=h p hp
  have a1:=ok_size a
  unfold longB
  simp only[Bool.or_eq_true,decide_eq_true_eq,List.any_eq_true,not_or,not_exists,not_and]
  exact⟨⟨by omega,by omega⟩,fun s hs=>by have:=ok_size (b s hs);omega⟩
 have h2:printE l=0:=by
  unfold printE
  rw[if_neg]
  rw[h1]
  simp
  omega
 have h3:l.any polBad=false:=by
  rw[List.any_eq_false]
  intro p hp
  obtain⟨a,b,c⟩:=h p hp
  have b1:namesOK p.2=true:=List.all_eq_true.2 b
  unfold polBad
  simp[a,b1]
 unfold labOK
 rw[h2,h3]
 rfl
theorem label_holds (e:Nat):Holds (fun l=>labOK l=true) (labelR e):=by
 intro ts l r hf h
 have h1:=encl_holds (by omega) (policy_sfx e) (policy_holds e) hf h
 exact lab_ok h1.1 h1.2
def FE (t:Tr):Prop:=formE t=true
theorem fe_mk {k p n t:Int}{s:ByteArray}{l:List Po}{a:List Tr}(h:aloneF (.mk k p n t s l a)=true)(ha:∀x∈a,FE x):FE (.mk k p n t s l a):=by
 show(aloneF (.mk k p n t s l a) && formL a)=true
 rw[h,formL_all,Bool.true_and,List.all_eq_true]
 exact ha
theorem fe_op {s:Tok}{x y:Tr}(hl:0<levF s.2.2)(hx:FE x)(hy:FE y):FE (opT s [x,y]):=by
 refine fe_mk ?_ ?_
 ·have e:(ba s.2.2).data.toList=s.2.2:=rfl
  simp[aloneF,e,hl]
 ·intro z hz
  simp only[List.mem_cons,List.not_mem_nil,or_false] at hz
  rcases hz with rfl | rfl
  ·exact hx
  ·exact hy
theorem loopF_holds {Q:List Tok→Res Tr}{lv:Nat}(hl:0<lv)(hS:Sfx Q)(hQ:Holds FE Q):∀f x ts t r,Fine ts→FE x→loopF Q lv f x ts=.ok t r→FE t:=by
 intro f
 induction f with
 | zero=>intro x ts t r hf hx h;cases h;exact hx
 | succ f ih=>
  intro x ts t r hf hx h
  unfold loopF at h
  split at h
  ·rename_i h0
   obtain⟨y,u,h1,h2⟩:=bind_ok h
   have hy:=hQ _ _ _ (hf.sfx (tail_sfx ts)) h1
   exact ih _ _ _ _ ((hf.sfx (tail_sfx ts)).sfx (hS _ _ _ h1)) (fe_op (by omega) hx hy) h2
  ·cases h;exact hx
theorem bd_holds {P:List Tok→Res Tr}(hS:Sfx P)(hP:Holds FE P):∀j,j≤5→Holds FE (bd P j):=by
 intro j
 induction j with
 | zero=>exact fun _=>hP
 | succ j ih=>
  intro hj ts t r hf h
  obtain⟨b,u,h1,h2⟩:=bind_ok h
  have h3:=ih (by omega) _ _ _ hf h1
  exact loopF_holds (by omega) (bd_sfx hS j) (ih (by omega)) _ _ _ _ _ (hf.sfx (bd_sfx hS j _ _ _ h1)) h3 h2
theorem named_holds {e:Nat}{E:List Tok→Res Tr}(hS:Sfx E)(hE:Holds FE E){ts r:List Tok}{t:Tr}(hf:Fine ts)(h1:(nx ts).1=1)(h:namedR e E ts=.ok t r):FE t:=by
 have hn:=hf.name h1
 unfold namedR at h
 split at h
 ·obtain⟨a,u,h2,h3⟩:=bind_ok h
  cases h3
  have h4:=encl_holds (by omega) hS hE (hf.sfx (tail_sfx ts)) h2
  exact fe_mk (by simp[aloneF,hn,h4.2]) h4.1
 ·cases h
  exact fe_mk (by simp[aloneF,hn]) (fun x hx=>by cases hx)
theorem rel_holds {e:Nat}{E:List Tok→Res Tr}(hS:Sfx E)(hE:Holds FE E){ts r:List Tok}{t:Tr}(hf:Fine ts)(h:relR e E ts=.ok t r):FE t:=by
 obtain⟨_,r1,h1,h⟩:=bind_ok h
 obtain⟨x,r2,h2,h⟩:=bind_ok h
 obtain⟨_,r3,h3,h⟩:=bind_ok h
 obtain⟨lb,r4,h4,h⟩:=bind_ok h
 obtain⟨_,r5,h5,h⟩:=bind_ok h
 cases h
 have f1:=(hf.sfx (tail_sfx ts)).sfx (must_sfx _ _ _ _ _ h1)
 have f3:=(f1.sfx (hS _ _ _ h2)).sfx (must_sfx _ _ _ _ _ h3)
 have hx:=hE _ _ _ f1 h2
 have hl:labOK lb=true:=label_holds e _ _ _ f3 h4
 refine fe_mk (by simp[aloneF,hl,ba]) (fun z hz=> ?_)
 rw[List.mem_singleton.1 hz]
 exact hx
theorem primF_holds {e:Nat}{E P:List Tok→Res Tr}(hSE:Sfx E)(hE:Holds FE E)(hP:Holds FE P):Holds FE (primF e E P):=by
 intro ts t r hf h
 unfold primF at h
 split at h
 ·rename_i h0
  cases h
  refine fe_mk ?_ (fun x hx=>by cases hx)
  have h1:ts≠[]:=by rintro rfl;cases h0
  cases ts with
  | nil=>exact absurd rfl h1
  | cons u us=>
   have h2:=hf u (by simp)
   have h3:u.1=2:=h0
   rw[h3] at h2
   obtain⟨_,m,h4,h5⟩:=num_tok h2
   have h6:numV u.2.2=(m:Int):=by simp[numV,h4]
   show aloneF (.mk 1 u.2.1 (numV u.2.2) 1 (ba []) [] [])=true
   rw[h6]
   have h8:(m:Int)≤999999999:=by omega
   simp[aloneF,numOK,ba,h8]
 split at h
 ·rename_i h0
  exact named_holds hSE hE hf h0 h
 split at h
 ·exact rel_holds hSE hE hf h
 split at h
 ·rename_i h0
  obtain⟨x,u,h1,h2⟩:=bind_ok h
  cases h2
  have h3:=hP _ _ _ (hf.sfx (tail_sfx ts)) h1
  refine fe_mk ?_ (fun z hz=>by rw[List.mem_singleton.1 hz];exact h3)
  rcases h0 with h0 | h0<;>simp[aloneF,h0,ba]
 split at h
 ·cases h
  exact fe_mk (by simp[aloneF,numOK,ba]) (fun x hx=>by cases hx)
 split at h
 ·cases h
  exact fe_mk (by simp[aloneF,numOK,ba]) (fun x hx=>by cases hx)
 obtain⟨b,u,h1,h2⟩:=bind_ok h
 obtain⟨x,v,h3,h4⟩:=bind_ok h2
 obtain⟨l2,v2,h5,h6⟩:=bind_ok h4
 cases h6
 exact hE _ _ _ (hf.sfx (must_sfx _ _ _ _ _ h1)) h3
theorem prim_holds (e:Nat):∀k,Holds FE (prim e k):=by
 intro k
 induction k with
 | zero=>intro ts a r hf h;cases h
 | succ k ih=>exact primF_holds (bd_sfx (prim_sfx e k) 5) (bd_holds (prim_sfx e k) ih 5 (Nat.le_refl _)) ih
theorem expr_holds (e k:Nat):Holds FE (exprR e k):=bd_holds (prim_sfx e k) (prim_holds e k) 5 (Nat.le_refl _)
theorem scan_fine {l:List UInt8}{ts:List Tok}{q:Nat}(h:Lex.scanAll l=(ts,0,q)):Fine ts:=fun t ht=>((Lex.all_from h).1 t ht).2.2.1
end Par
namespace Par
inductive StX:Nat→Stm→Prop
 | let_ {m:Nat} {p:Int} {s:ByteArray} {d:Bool} {l:List Po} {e:Tr} (hs:nameOK s=true) (hl:labOK l=true) (hd:d=false→l=[]) (he:FE e):StX (m+1) (.mk 1 p s (ba []) d l e [] [])
 | set_ {m:Nat} {p:Int} {s:ByteArray} {e:Tr} (hs:nameOK s=true) (he:FE e):StX (m+1) (.mk 2 p s (ba []) false [] e [] [])
 | if_ {m:Nat} {p:Int} {e:Tr} {a b:List Stm} (he:FE e) (hm:m≠0) (ha:a.length≤20) (hb:b.length≤20) (ka:∀x∈a,StX m x) (kb:∀x∈b,StX m x):StX (m+1) (.mk 3 p (ba []) (ba []) false [] e a b)
 | while_ {m:Nat} {p:Int} {e:Tr} {a:List Stm} (he:FE e) (hm:m≠0) (ha:a.length≤20) (ka:∀x∈a,StX m x):StX (m+1) (.mk 4 p (ba []) (ba []) false [] e a [])
 | send_ {m:Nat} {p:Int} {s:ByteArray} {e:Tr} (hs:nameOK s=true) (he:FE e):StX (m+1) (.mk 5 p s (ba []) false [] e [] [])
 | take_ {m:Nat} {p:Int} {s o:ByteArray} (hs:nameOK s=true) (ho:nameOK o=true):StX (m+1) (.mk 6 p s o false [] noE [] [])
 | do_ {m:Nat} {p q:Int} {s:ByteArray} {a:List Tr} (he:FE (.mk 4 q 0 0 s [] a)):StX (m+1) (.mk 7 p (ba []) (ba []) false [] (.mk 4 q 0 0 s [] a) [] [])
 | ret_ {m:Nat} {p:Int} {e:Tr} (he:FE e):StX (m+1) (.mk 8 p (ba []) (ba []) false [] e [] [])
def BkX (m:Nat)(l:List Stm):Prop:=l.length≤20∧∀x∈l,StX m x
theorem body_holds {e m:Nat}{S:List Tok→Res Stm}(hS:Sfx S)(hX:Holds (StX m) S):∀n acc ts l r,Fine ts→(∀x∈acc,StX m x)→bodyF e S n acc ts=.ok l r→(∀x∈l,StX m x)∧l.length≤acc.length+n:=by
 intro n
 induction n with
 | zero=>
  intro acc ts l r hf ha h
  unfold bodyF at h
  split at h
  ·cases h;exact⟨ha,Nat.le_refl _⟩
  ·cases h
 | succ n ih=>
  intro acc ts l r hf ha h
  unfold bodyF at h
  split at h
  ·cases h;exact⟨ha,by omega⟩
  ·obtain⟨b,u,h1,h2⟩:=bind_ok h
   have h3:=hX _ _ _ hf h1
   have h4:=ih (acc++[b]) _ _ _ (hf.sfx (hS _ _ _ h1)) (fun a hm=>by
    rcases List.mem_append.1 hm with hm | hm
    ·exact ha a hm
    ·rw[List.mem_singleton.1 hm];exact h3) h2
   refine⟨h4.1,?_⟩
   have h5:=h4.2
   simp at h5
   omega
theorem semi_ok {e:Nat}{s t:Stm}{ts r:List Tok}(h:semi e s ts=.ok t r):t=s:=by
 obtain⟨_,_,_,h2⟩:=bind_ok h
 cases h2
 rfl
theorem type_holds (e:Nat):Holds (fun t=>t=1∨t=2) (typeR e):=by
 intro ts a r _ h
 unfold typeR at h
 split at h
 ·cases h;exact .inl rfl
 ·obtain⟨_,_,_,h2⟩:=bind_ok h
  cases h2;exact .inr rfl
def KdX (k:Int×List Po):Prop:=(k.1=1∨k.1=2)∧labOK k.2=true
theorem kind_holds (e:Nat):Holds KdX (kindR e):=by
 intro ts a r hf h
 obtain⟨_,r1,h1,h⟩:=bind_ok h
 obtain⟨t,r2,h2,h⟩:=bind_ok h
 obtain⟨l,r3,h3,h⟩:=bind_ok h
 cases h
 have f1:=hf.sfx (must_sfx _ _ _ _ _ h1)
 exact⟨type_holds e _ _ _ f1 h2,label_holds e _ _ _ (f1.sfx (type_sfx _ _ _ _ h2)) h3⟩
def PmX (q:Prm):Prop:=nameOK q.name=true∧(q.type=1∨q.type=2)∧labOK q.lab=true
theorem param_holds (e:Nat):Holds PmX (paramR e):=by
 intro ts a r hf h
 obtain⟨s,r1,h1,h⟩:=bind_ok h
 obtain⟨k,r2,h2,h⟩:=bind_ok h
 cases h
 have h3:=kind_holds e _ _ _ (hf.sfx (name_sfx _ _ _ _ h1)) h2
 exact⟨name_holds e _ _ _ hf h1,h3.1,h3.2⟩
theorem call_fe {e p:Nat}{s:ByteArray}(hs:nameOK s=true){ts r:List Tok}{t:Tr}(hf:Fine ts)(h:callR e p s ts=.ok t r):∃a,t=.mk 4 (p:Int) 0 0 s [] a∧FE t:=by
 obtain⟨a,u,h2,h3⟩:=bind_ok h
 cases h3
 have h4:=encl_holds (by omega) (expr_sfx e 12) (expr_holds e 12) hf h2
 exact⟨a,rfl,fe_mk (by simp[aloneF,hs,h4.2]) h4.1⟩
theorem stm_holds {e m:Nat}{B:List Tok→Res (List Stm)}(hB:Sfx B)(hX:Holds (fun l=>BkX m l∧m≠0) B):Holds (StX (m+1)) (stmF e B):=by
 intro ts t r hf h
 have ft:=hf.sfx (tail_sfx ts)
 unfold stmF at h
 split at h
 ·obtain⟨x,r1,h1,h⟩:=bind_ok h
  obtain⟨a,r2,h2,h⟩:=bind_ok h
  have f1:=ft.sfx (expr_sfx _ _ _ _ _ h1)
  have f2:=f1.sfx (hB _ _ _ h2)
  have hx:=expr_holds e 12 _ _ _ ft h1
  have ha:=hX _ _ _ f1 h2
  split at h
  ·obtain⟨b,r3,h3,h⟩:=bind_ok h
   cases h
   have hb:=hX _ _ _ (f2.sfx (tail_sfx _)) h3
   exact .if_ hx ha.2 ha.1.1 hb.1.1 ha.1.2 hb.1.2
  ·cases h
   exact .if_ hx ha.2 ha.1.1 (by simp) ha.1.2 (fun x hx=>by cases hx)
 split at h
 ·obtain⟨x,r1,h1,h⟩:=bind_ok h
  obtain⟨a,r2,h2,h⟩:=bind_ok h
  cases h
  have f1:=ft.sfx (expr_sfx _ _ _ _ _ h1)
  have ha:=hX _ _ _ f1 h2
  exact .while_ (expr_holds e 12 _ _ _ ft h1) ha.2 ha.1.1 ha.1.2
 split at h
 ·obtain⟨s,r1,h1,h⟩:=bind_ok h
  obtain⟨d,r2,h2,h⟩:=bind_ok h
  obtain⟨_,r3,h3,h⟩:=bind_ok h
  obtain⟨x,r4,h4,h⟩:=bind_ok h
  rw[semi_ok h]
  have f1:=ft.sfx (name_sfx _ _ _ _ h1)
  have f3:=(f1.sfx (bears_sfx _ _ _ _ h2)).sfx (must_sfx _ _ _ _ _ h3)
  have hd:labOK d.2=true∧(d.1=false→d.2=[]):=by
   unfold bearsR at h2
   split at h2
   ·obtain⟨l,r5,h5,h2⟩:=bind_ok h2
    cases h2
    exact⟨label_holds e _ _ _ f1 h5,fun h9=>by cases h9⟩
   ·cases h2
    exact⟨by decide,fun _=>rfl⟩
  exact .let_ (name_holds e _ _ _ ft h1) hd.1 hd.2 (expr_holds e 12 _ _ _ f3 h4)
 split at h
 ·obtain⟨s,r1,h1,h⟩:=bind_ok h
  obtain⟨x,r2,h2,h⟩:=bind_ok h
  rw[semi_ok h]
  exact .send_ (name_holds e _ _ _ ft h1) (expr_holds e 12 _ _ _ (ft.sfx (name_sfx _ _ _ _ h1)) h2)
 split at h
 ·obtain⟨s,r1,h1,h⟩:=bind_ok h
  obtain⟨o,r2,h2,h⟩:=bind_ok h
  rw[semi_ok h]
  exact .take_ (name_holds e _ _ _ ft h1) (name_holds e _ _ _ (ft.sfx (name_sfx _ _ _ _ h1)) h2)
 split at h
 ·obtain⟨s,r1,h1,h⟩:=bind_ok h
  obtain⟨x,r2,h2,h⟩:=bind_ok h
  rw[semi_ok h]
  obtain⟨a,rfl,hfe⟩:=call_fe (name_holds e _ _ _ ft h1) (ft.sfx (name_sfx _ _ _ _ h1)) h2
  exact .do_ hfe
 split at h
 ·obtain⟨x,r1,h1,h⟩:=bind_ok h
  rw[semi_ok h]
  exact .ret_ (expr_holds e 12 _ _ _ ft h1)
 ·obtain⟨s,r1,h1,h⟩:=bind_ok h
  obtain⟨_,r2,h2,h⟩:=bind_ok h
  obtain⟨x,r3,h3,h⟩:=bind_ok h
  rw[semi_ok h]
  exact .set_ (name_holds e _ _ _ hf h1) (expr_holds e 12 _ _ _ ((hf.sfx (name_sfx _ _ _ _ h1)).sfx (must_sfx _ _ _ _ _ h2)) h3)
theorem block_holds (e:Nat):∀k,Holds (fun l=>BkX k l∧k≠0) (block e k):=by
 intro k
 induction k with
 | zero=>
  intro ts l r hf h
  obtain⟨_,r1,h1,h⟩:=bind_ok h
  cases h
 | succ k ih=>
  intro ts l r hf h
  obtain⟨_,r1,h1,h⟩:=bind_ok h
  have h2:=body_holds (stm_sfx (block_sfx e k)) (stm_holds (block_sfx e k) ih) _ _ _ _ _ (hf.sfx (must_sfx _ _ _ _ _ h1)) (fun x hx=>by cases hx) h
  exact⟨⟨by simpa using h2.2,h2.1⟩,by omega⟩
theorem proc_sfx (e:Nat):Sfx (procR e):=by
 intro ts p r h
 obtain⟨_,r1,h1,h⟩:=bind_ok h
 obtain⟨s,r2,h2,h⟩:=bind_ok h
 obtain⟨q,r3,h3,h⟩:=bind_ok h
 obtain⟨t,r4,h4,h⟩:=bind_ok h
 obtain⟨b,r5,h5,h⟩:=bind_ok h
 obtain⟨f,r6,h6,h⟩:=bind_ok h
 obtain⟨y,r7,h7,h⟩:=bind_ok h
 cases h
 exact(block_sfx e 12 _ _ _ h7).trans ((for_sfx _ _ _ _ h6).trans ((begin_sfx _ _ _ _ h5).trans ((result_sfx _ _ _ _ h4).trans ((encl_sfx (param_sfx e) _ _ _ h3).trans ((name_sfx _ _ _ _ h2).trans (must_sfx _ _ _ _ _ h1))))))
structure PcX (p:Prc):Prop where
 name:nameOK p.name=true
 pars:p.params.length≤4
 fors:p.for_.length≤6
 par:∀q∈p.params,PmX q
 res:p.result.name=ba []∧((p.result.type=0∧p.result.lab=[])∨((p.result.type=1∨p.result.type=2)∧labOK p.result.lab=true))
 beg:labOK p.begin_=true
 fo:∀s∈p.for_,nameOK s=true
 body:BkX 12 p.body
theorem proc_holds (e:Nat):Holds PcX (procR e):=by
 intro ts p r hf h
 obtain⟨_,r1,h1,h⟩:=bind_ok h
 obtain⟨s,r2,h2,h⟩:=bind_ok h
 obtain⟨q,r3,h3,h⟩:=bind_ok h
 obtain⟨t,r4,h4,h⟩:=bind_ok h
 obtain⟨b,r5,h5,h⟩:=bind_ok h
 obtain⟨f,r6,h6,h⟩:=bind_ok h
 obtain⟨y,r7,h7,h⟩:=bind_ok h
 cases h
 have f1:=hf.sfx (must_sfx _ _ _ _ _ h1)
 have f2:=f1.sfx (name_sfx _ _ _ _ h2)
 have f3:=f2.sfx (encl_sfx (param_sfx e) _ _ _ h3)
 have f4:=f3.sfx (result_sfx _ _ _ _ h4)
 have f5:=f4.sfx (begin_sfx _ _ _ _ h5)
 have f6:=f5.sfx (for_sfx _ _ _ _ h6)
 have hq:=encl_holds (by omega) (param_sfx e) (param_holds e) f2 h3
 have ht:t.name=ba []∧((t.type=0∧t.lab=[])∨((t.type=1∨t.type=2)∧labOK t.lab=true)):=by
  unfold resultR at h4
  split at h4
  ·obtain⟨k,r8,h8,h4⟩:=bind_ok h4
   cases h4
   exact⟨rfl,.inr (kind_holds e _ _ _ f3 h8)⟩
  ·cases h4
   exact⟨rfl,.inl ⟨rfl,rfl⟩⟩
 have hb:labOK b=true:=by
  unfold beginR at h5
  split at h5
  ·exact label_holds e _ _ _ (f4.sfx (tail_sfx _)) h5
  ·cases h5;decide
 have hfo:(∀s∈f,nameOK s=true)∧f.length≤6:=by
  unfold forR at h6
  split at h6
  ·exact listR_holds (by omega) (name_sfx e) (name_holds e) (f5.sfx (tail_sfx _)) h6
  ·cases h6;exact⟨(fun s hs=>by cases hs),by simp⟩
 exact⟨name_holds e _ _ _ f1 h2,hq.2,hfo.2,hq.1,ht,hb,hfo.1,(block_holds e 12 _ _ _ f6 h7).1⟩
def CnX (c:Chn):Prop:=(c.type=1∨c.type=2)∧nameOK c.name=true∧labOK c.lab=true
structure PgX (p:Prg):Prop where
 nchief:p.chiefs.length≤6
 nact:p.acts.length≤10
 nchan:p.chans.length≤6
 nproc:p.procs.length≤6
 chief:∀s∈p.chiefs,nameOK s=true
 act:∀q∈p.acts,nameOK q.1=true∧nameOK q.2=true
 chan:∀c∈p.chans,CnX c
 proc:∀q∈p.procs,PcX q
theorem more_holds {α:Type}{F:α→Prop}{e m:Nat}{l l':List α}{P:List Tok→Res α}(hP:Holds F P){ts r:List Tok}(hf:Fine ts)(hl:∀a∈l,F a)(hm:l.length≤m)(h:moreR e m l P ts=.ok l' r):(∀a∈l',F a)∧l'.length≤m:=by
 unfold moreR at h
 split at h
 ·cases h
 ·rename_i h0
  obtain⟨a,u,h1,h2⟩:=bind_ok h
  cases h2
  have h3:=hP _ _ _ hf h1
  refine⟨fun b hb=> ?_,by simp;omega⟩
  rcases List.mem_append.1 hb with hb | hb
  ·exact hl b hb
  ·rw[List.mem_singleton.1 hb];exact h3
theorem chief_holds (e:Nat):Holds (fun s=>nameOK s=true) (chiefR e):=by
 intro ts a r hf h
 obtain⟨_,r1,h1,h⟩:=bind_ok h
 obtain⟨s,r2,h2,h⟩:=bind_ok h
 obtain⟨_,r3,h3,h⟩:=bind_ok h
 cases h
 exact name_holds e _ _ _ (hf.sfx (must_sfx _ _ _ _ _ h1)) h2
theorem acts_holds (e:Nat):Holds (fun q=>nameOK q.1=true∧nameOK q.2=true) (actsR e):=by
 intro ts a r hf h
 obtain⟨_,r1,h1,h⟩:=bind_ok h
 obtain⟨s,r2,h2,h⟩:=bind_ok h
 obtain⟨t,r3,h3,h⟩:=bind_ok h
 obtain⟨_,r4,h4,h⟩:=bind_ok h
 cases h
 have f1:=hf.sfx (must_sfx _ _ _ _ _ h1)
 exact⟨name_holds e _ _ _ f1 h2,name_holds e _ _ _ (f1.sfx (name_sfx _ _ _ _ h2)) h3⟩
theorem chan_holds (e:Nat):Holds CnX (chanR e):=by
 intro ts a r hf h
 obtain⟨q,r1,h1,h⟩:=bind_ok h
 obtain⟨_,r2,h2,h⟩:=bind_ok h
 cases h
 have h3:=param_holds e _ _ _ (hf.sfx (tail_sfx ts)) h1
 exact⟨h3.2.1,h3.1,h3.2.2⟩
theorem part_holds {e:Nat}{p q:Prg}{ts r:List Tok}(hf:Fine ts)(hp:PgX p)(h:partR e p ts=.ok q r):PgX q∧r<:+ts:=by
 unfold partR at h
 split at h
 ·obtain⟨l,u,h1,h2⟩:=bind_ok h
  cases h2
  have h3:=more_holds (chief_holds e) hf hp.chief hp.nchief h1
  refine⟨⟨h3.2,hp.nact,hp.nchan,hp.nproc,h3.1,hp.act,hp.chan,hp.proc⟩,?_⟩
  unfold moreR at h1
  split at h1
  ·cases h1
  ·obtain⟨a,u2,h4,h5⟩:=bind_ok h1
   cases h5
   exact chief_sfx e _ _ _ h4
 split at h
 ·obtain⟨l,u,h1,h2⟩:=bind_ok h
  cases h2
  have h3:=more_holds (acts_holds e) hf hp.act hp.nact h1
  refine⟨⟨hp.nchief,h3.2,hp.nchan,hp.nproc,hp.chief,h3.1,hp.chan,hp.proc⟩,?_⟩
  unfold moreR at h1
  split at h1
  ·cases h1
  ·obtain⟨a,u2,h4,h5⟩:=bind_ok h1
   cases h5
   exact acts_sfx e _ _ _ h4
 split at h
 ·obtain⟨l,u,h1,h2⟩:=bind_ok h
  cases h2
  have h3:=more_holds (chan_holds e) hf hp.chan hp.nchan h1
  refine⟨⟨hp.nchief,hp.nact,h3.2,hp.nproc,hp.chief,hp.act,h3.1,hp.proc⟩,?_⟩
  unfold moreR at h1
  split at h1
  ·cases h1
  ·obtain⟨a,u2,h4,h5⟩:=bind_ok h1
   cases h5
   exact chan_sfx e _ _ _ h4
 split at h
 ·obtain⟨l,u,h1,h2⟩:=bind_ok h
  cases h2
  have h3:=more_holds (proc_holds e) hf hp.proc hp.nproc h1
  refine⟨⟨hp.nchief,hp.nact,hp.nchan,h3.2,hp.chief,hp.act,hp.chan,h3.1⟩,?_⟩
  unfold moreR at h1
  split at h1
  ·cases h1
  ·obtain⟨a,u2,h4,h5⟩:=bind_ok h1
   cases h5
   exact proc_sfx e _ _ _ h4
 ·cases h
theorem prog_holds {e:Nat}:∀f p ts q r,Fine ts→PgX p→progF e f p ts=.ok q r→PgX q:=by
 intro f
 induction f with
 | zero=>intro p ts q r _ hp h;cases h;exact hp
 | succ f ih=>
  intro p ts q r hf hp h
  unfold progF at h
  split at h
  ·cases h;exact hp
  ·obtain⟨a,u,h1,h2⟩:=bind_ok h
   have h3:=part_holds hf hp h1
   exact ih _ _ _ _ (hf.sfx h3.2) h3.1 h2
theorem pgx_none:PgX ⟨[],[],[],[]⟩:=⟨by simp,by simp,by simp,by simp,(fun s h=>by cases h),(fun s h=>by cases h),(fun s h=>by cases h),(fun s h=>by cases h)⟩
theorem read_pgx {l:List UInt8}{p:Prg}{r:List Tok}(h:readP l=.ok p r):PgX p:=by
 unfold readP wholeF at h
 split at h
 ·cases h
 ·rename_i h0
  obtain⟨ts,c,q,hs⟩:∃ts c q,Lex.scanAll l=(ts,c,q):=⟨_,_,_,rfl⟩
  rw[hs] at h h0
  simp at h0
  subst h0
  obtain⟨a,s,h1,h2⟩:=bind_ok h
  unfold restR at h2
  split at h2
  ·cases h2
   exact prog_holds _ _ _ _ _ (scan_fine hs) pgx_none h1
  ·cases h2
end Par
open Go.RowKit
open Par (Tok Po Tr nx atP isT ba Res Stm Prm Chn Prc Prg)
inductive DpS:Stm→Prop
 | mk {k p:Int} {s o:ByteArray} {d:Bool} {l:List Po} {e:Tr} {a b:List Stm} (he:k≠6→Par.formD 12 e=true) (ka:∀x∈a,DpS x) (kb:∀x∈b,DpS x):DpS (.mk k p s o d l e a b)
theorem dps_iff {k p:Int}{s o:ByteArray}{d:Bool}{l:List Po}{e:Tr}{a b:List Stm}:DpS (.mk k p s o d l e a b)↔(k≠6→Par.formD 12 e=true)∧(∀x∈a,DpS x)∧(∀x∈b,DpS x):=
 ⟨fun h=>by cases h with | mk he ka kb=>exact⟨he,ka,kb⟩,fun h=>.mk h.1 h.2.1 h.2.2⟩
theorem stx_ways {m:Nat}{k p:Int}{s o:ByteArray}{d:Bool}{l:List Po}{e:Tr}{a b:List Stm}(h:Par.StX (m+1) (.mk k p s o d l e a b)):Par.labOK l=true∧a.length≤20∧b.length≤20∧(∀x∈a,Par.StX m x)∧(∀x∈b,Par.StX m x)∧
 ((k=3∧m≠0∧d=false∧l=[])∨(k=4∧m≠0∧d=false∧l=[]∧b=[])∨(k≠3∧k≠4∧k=1∧d=true∧a=[]∧b=[])∨(k≠3∧k≠4∧d=false∧l=[]∧a=[]∧b=[])):=by
 have h0:Par.labOK []=true:=by decide
 have n0:∀x∈([]:List Stm),Par.StX m x:=fun x hx=>by cases hx
 cases h with
 | let_ hs hl hd he=>
  refine⟨hl,by simp,by simp,n0,n0,?_⟩
  cases d with
  | true=>exact .inr (.inr (.inl ⟨by decide,by decide,rfl,rfl,rfl,rfl⟩))
  | false=>exact .inr (.inr (.inr ⟨by decide,by decide,rfl,hd rfl,rfl,rfl⟩))
 | set_ hs he=>exact⟨h0,by simp,by simp,n0,n0,.inr (.inr (.inr ⟨by decide,by decide,rfl,rfl,rfl,rfl⟩))⟩
 | if_ he hm ha hb ka kb=>exact⟨h0,ha,hb,ka,kb,.inl ⟨rfl,hm,rfl,rfl⟩⟩
 | while_ he hm ha ka=>exact⟨h0,ha,by simp,ka,n0,.inr (.inl ⟨rfl,hm,rfl,rfl,rfl⟩)⟩
 | send_ hs he=>exact⟨h0,by simp,by simp,n0,n0,.inr (.inr (.inr ⟨by decide,by decide,rfl,rfl,rfl,rfl⟩))⟩
 | take_ hs ho=>exact⟨h0,by simp,by simp,n0,n0,.inr (.inr (.inr ⟨by decide,by decide,rfl,rfl,rfl,rfl⟩))⟩
 | do_ he=>exact⟨h0,by simp,by simp,n0,n0,.inr (.inr (.inr ⟨by decide,by decide,rfl,rfl,rfl,rfl⟩))⟩
 | ret_ he=>exact⟨h0,by simp,by simp,n0,n0,.inr (.inr (.inr ⟨by decide,by decide,rfl,rfl,rfl,rfl⟩))⟩
theorem stx_names {m:Nat}{k p:Int}{s o:ByteArray}{d:Bool}{l:List Po}{e:Tr}{a b:List Stm}(h:Par.StX (m+1) (.mk k p s o d l e a b)):(k=6∧Par.nameOK s=true∧Par.nameOK o=true∧e=Par.noE)∨((k=1∨k=2∨k=5)∧Par.nameOK s=true∧o=ba []∧Par.FE e)∨((k=3∨k=4∨k=8)∧s=ba []∧o=ba []∧Par.FE e)∨(k=7∧s=ba []∧o=ba []∧Par.FE e∧∃q s' a',e=.mk 4 q 0 0 s' [] a'):=by
 cases h with
 | let_ hs hl hd he=>exact .inr (.inl ⟨.inl rfl,hs,rfl,he⟩)
 | set_ hs he=>exact .inr (.inl ⟨.inr (.inl rfl),hs,rfl,he⟩)
 | if_ he hm ha hb ka kb=>exact .inr (.inr (.inl ⟨.inl rfl,rfl,rfl,he⟩))
 | while_ he hm ha ka=>exact .inr (.inr (.inl ⟨.inr (.inl rfl),rfl,rfl,he⟩))
 | send_ hs he=>exact .inr (.inl ⟨.inr (.inr rfl),hs,rfl,he⟩)
 | take_ hs ho=>exact .inl ⟨rfl,hs,ho,rfl⟩
 | do_ he=>exact .inr (.inr (.inr ⟨rfl,rfl,rfl,he,_,_,_,rfl⟩))
 | ret_ he=>exact .inr (.inr (.inl ⟨.inr (.inr rfl),rfl,rfl,he⟩))
theorem StIs.det {w:World}{S S':Nat→Prop}{t u:Stm}{cs:List Value}(h:StIs w S t cs)(g:StIs w S' u cs):t=u:=by
 induction h generalizing u with
 | @mk k p s o d l e a b lv av bv ce csa csb hs ho hl he hra hca hrb hcb _ _ iha ihb=>
  generalize hcs:[Value.int .i64 k,.int .i64 p,.string s,.string o,.bool d,lv]++ce++[av,bv]=cs at g
  cases g with
  | @mk k' p' s' o' d' l' e' a' b' lv' av' bv' ce' csa' csb' gs go gl ge gra gca grb gcb gka gkb=>
   have n1:=he.len
   have n2:=ge.len
   simp only[List.cons_append,List.nil_append,List.cons.injEq,Value.int.injEq,Value.string.injEq,Value.bool.injEq,true_and] at hcs
   obtain⟨rfl,rfl,rfl,rfl,rfl,rfl,hcs⟩:=hcs
   obtain⟨rfl,h2⟩:=List.append_inj hcs (by omega)
   simp only[List.cons.injEq,and_true] at h2
   obtain⟨rfl,rfl⟩:=h2
   obtain rfl:=hl.det gl
   obtain rfl:=he.det ge
   obtain rfl:=hra.det gra
   obtain rfl:=hrb.det grb
   have e1:a=a':=List.ext_getElem (hca.symm.trans gca) fun i hi hi'=>iha i hi (by omega) (gka i hi' (by omega))
   have e2:b=b':=List.ext_getElem (hcb.symm.trans gcb) fun i hi hi'=>ihb i hi (by omega) (gkb i hi' (by omega))
   rw[e1,e2]
def StsAt (w:World)(b off n:Nat)(a:List Stm):Prop:=n=a.length∧∃(c:Nat) (css:List (List Value)),RowAt w (fun b=>b<w.heap.size) 15 (some ⟨b,off,none⟩) b off n c css∧css.length=a.length∧∀i (h:i<a.length) (h':i<css.length),StIs w (fun b=>b<w.heap.size) a[i] css[i]
theorem StsAt.det {w:World}{b off n:Nat}{a a':List Stm}(h:StsAt w b off n a)(g:StsAt w b off n a'):a=a':=by
 obtain⟨h0,c,css,hr,hl,hk⟩:=h
 obtain⟨g0,c',css',gr,gl,gk⟩:=g
 have e:css=css':=by
  refine List.ext_getElem (by omega) fun i hi hi'=> ?_
  refine List.ext_getElem ((hr.szs i hi).trans (gr.szs i hi').symm) fun j hj hj'=> ?_
  have c1:=hr.cell i hi j _ (List.getElem?_eq_getElem hj)
  have c2:=gr.cell i hi' j _ (List.getElem?_eq_getElem hj')
  exact Option.some.inj (c1.symm.trans c2)
 subst e
 exact List.ext_getElem (by omega) fun i hi hi'=>(hk i hi (by omega)).det (gk i hi' (by omega))
def InvS (w:World)(K:List PK)(d:Nat):Prop:=∀p∈K,d≤p.2.2.2→∀a,StsAt w p.1 p.2.1 p.2.2.1 a→∀x∈a,DpS x
theorem invS_up {w0:World}{d:Nat}{K Ki:List PK}{key:PK}{a:List Stm}(hI:InvS w0 K d)(hi:InvS w0 Ki (d+1))(hn:∀p∈Ki,p∈addP K key∨d+1≤p.2.2.2)(hk:StsAt w0 key.1 key.2.1 key.2.2.1 a)(ha:∀x∈a,DpS x):InvS w0 Ki d:=by
 intro p hp hd b hb
 by_cases h:d+1≤p.2.2.2
 ·exact hi p hp h b hb
 ·rcases hn p hp with h1 | h1
  ·rcases mem_addP.1 h1 with h2 | rfl
   ·exact hI p h2 hd b hb
   ·have:=hk.det hb
    subst this
    exact ha
  ·omega
theorem invS_add {w0:World}{d:Nat}{K:List PK}{key:PK}(hI:InvS w0 K d)(hkd:key.2.2.2=d):InvS w0 (addP K key) (d+1):=by
 intro p hp hd
 rcases mem_addP.1 hp with h | rfl
 ·exact hI p h (by omega)
 ·omega
structure Gr2 (B B2:Nat)(w w':World):Prop where
 os:w'.os=w.os
 tape:w'.tape=w.tape
 output:w'.output=w.output
 size:w.heap.size≤w'.heap.size
 block:∀k,k<w.heap.size→k≠B→k≠B2→w'.heap[k]? =w.heap[k]?
theorem Gr2.of_below {B B2:Nat}{w w':World}(h:Below w.heap.size w w'):Gr2 B B2 w w':=⟨h.os,h.tape,h.output,h.size,fun k hk _ _=>h.block k hk⟩
theorem Gr2.of_one {B B2:Nat}{w w':World}(h:w.grownBy w' (some B)):Gr2 B B2 w w':=⟨h.os,h.tape,h.output,h.size,fun k hk h1 _=>h.block k hk (by simp;exact h1)⟩
theorem Gr2.of_two {B B2:Nat}{w w':World}(h:w.grownBy w' (some B2)):Gr2 B B2 w w':=⟨h.os,h.tape,h.output,h.size,fun k hk _ h1=>h.block k hk (by simp;exact h1)⟩
theorem Gr2.trans {B B2:Nat}{a b c:World}(h:Gr2 B B2 a b)(g:Gr2 B B2 b c):Gr2 B B2 a c:=⟨g.os.trans h.os,g.tape.trans h.tape,g.output.trans h.output,Nat.le_trans h.size g.size,fun k hk h1 h2=>(g.block k (Nat.lt_of_lt_of_le hk h.size) h1 h2).trans (h.block k hk h1 h2)⟩
theorem Gr2.undrew {B B2:Nat}{w w':World}{n:Nat}(h:Gr2 B B2 (w.drewN n) w'):Gr2 B B2 w w':=⟨h.os,h.tape,h.output,h.size,h.block⟩
theorem Gr2.below {B B2:Nat}{w0 W W':World}(hW:Below w0.heap.size w0 W)(h:Gr2 B B2 W W')(hB:w0.heap.size≤B)(hB2:w0.heap.size≤B2):Below w0.heap.size w0 W':=
 ⟨h.os.trans hW.os,h.tape.trans hW.tape,h.output.trans hW.output,Nat.le_trans hW.size h.size,fun k hk=>(h.block k (Nat.lt_of_lt_of_le hk hW.size) (by omega) (by omega)).trans (hW.block k hk)⟩
theorem st_open {w:World}{S:Nat→Prop}{k p:Int}{s o:ByteArray}{d:Bool}{l:List Po}{e:Tr}{a b:List Stm}{cs:List Value}(h:StIs w S (.mk k p s o d l e a b) cs):
 ∃(lo:Option Addr) (lc:Nat) (z0 z1 z2 z3:Int) (z4:ByteArray) (z5:Option Addr) (m5 d5:Nat) (z6:Option Addr) (m6 d6:Nat) (ao:Option Addr) (ac:Nat) (bo:Option Addr) (bc:Nat),cs=[.int .i64 k,.int .i64 p,.string s,.string o,.bool d,.slice lo l.length lc,.int .i64 z0,.int .i64 z1,.int .i64 z2,.int .i64 z3,.string z4,.slice z5 m5 d5,.slice z6 m6 d6,.slice ao a.length ac,.slice bo b.length bc]∧s.size≤maxLen∧o.size≤maxLen∧LabV w S (.slice lo l.length lc) l∧TrIs w S e [.int .i64 z0,.int .i64 z1,.int .i64 z2,.int .i64 z3,.string z4,.slice z5 m5 d5,.slice z6 m6 d6]∧RwV StIs w S 15 (.slice ao a.length ac) a∧RwV StIs w S 15 (.slice bo b.length bc) b:=by
 obtain⟨lv,ce,av,bv,rfl,hs,ho,hl,he,ha,hb⟩:=h.rows
 obtain⟨z0,z1,z2,z3,z4,z5,m5,d5,z6,m6,d6,rfl⟩:∃(z0 z1 z2 z3:Int) (z4:ByteArray) (z5:Option Addr) (m5 d5:Nat) (z6:Option Addr) (m6 d6:Nat),ce=[.int .i64 z0,.int .i64 z1,.int .i64 z2,.int .i64 z3,.string z4,.slice z5 m5 d5,.slice z6 m6 d6]:=by
  cases he with
  | mk h1 h2 h3 h4 h5=>
   obtain⟨x5,y5,rfl⟩:=h2.val
   obtain⟨x6,y6,rfl⟩:=h3.val
   exact⟨_,_,_,_,_,_,_,_,_,_,_,rfl⟩
 obtain⟨lo,lc,rfl⟩:=hl.val
 obtain⟨ao,ac,rfl⟩:=ha.val
 obtain⟨bo,bc,rfl⟩:=hb.val
 exact⟨_,_,_,_,_,_,_,_,_,_,_,_,_,_,_,_,_,rfl,hs,ho,hl,he,ha,hb⟩
open Par (Tok Po Tr nx atP isT ba Res)
theorem Rd.setPr {w:World}{rb e:Nat}{bl pr:Int}{ts:List Tok}{v:Value}(h:Rd w rb e bl pr ts v)(n:Int):Rd (w.setCell ⟨rb,3,.none⟩ (.int .i64 n)) rb e bl n ts v:=by
 refine⟨?_,h.row.keeps ⟨by simp[World.setCell],fun b hb _=>Below.heap_setCell _ _ _ _ (by show b≠rb;omega)⟩,h.len,h.good,h.lv.keeps (by simp[World.setCell]) fun b hb=>Below.heap_setCell _ _ _ _ (by show b≠rb;omega)⟩
 simp[World.setCell,Array.getElem?_modify,h.blk]
theorem Rd.setBl {w:World}{rb e:Nat}{bl pr:Int}{ts:List Tok}{v:Value}(h:Rd w rb e bl pr ts v)(n:Int):Rd (w.setCell ⟨rb,2,.none⟩ (.int .i64 n)) rb e n pr ts v:=by
 refine⟨?_,h.row.keeps ⟨by simp[World.setCell],fun b hb _=>Below.heap_setCell _ _ _ _ (by show b≠rb;omega)⟩,h.len,h.good,h.lv.keeps (by simp[World.setCell]) fun b hb=>Below.heap_setCell _ _ _ _ (by show b≠rb;omega)⟩
 simp[World.setCell,Array.getElem?_modify,h.blk]
theorem rIn_many {w:World}{rb e:Nat}{bl:Int}{ts:List Tok}{v:Value}(h:Rd w rb e bl 12 ts v):
 Calls Tryz.prog 105 #[.pointer (some ⟨rb,0,none⟩),.pointer (some ⟨rb,3,none⟩)] w fun x w'=>x=goneE 2 (atP e ts)∧Below w.heap.size w w':=by
 have hmf:=mkF
 obtain⟨c0,c1,c2,c3⟩:=h.cells
 have hlt:=h.lt
 have H:Hid (∀o,Rd (w.alloc o) rb e bl 12 ts v):=fun o=>h.keeps ((Below.refl _ _).alloc (Nat.le_refl _) o) h.lt
 clear h
 go_enter Tryz.func105,Tryz.ntmps105
 go_wp2_with fail
 refine(rGive_any _ (H.out _)).mono ?_
 rintro x w2 ⟨rfl,hw2⟩
 subst hw2
 exact⟨rfl,rfl,(Below.refl _ _).alloc (Nat.le_refl _) _⟩
theorem rIn_some {w:World}{rb e d:Nat}{bl:Int}{ts:List Tok}{v:Value}(h:Rd w rb e bl d ts v)(hd:d<12):
 Calls Tryz.prog 105 #[.pointer (some ⟨rb,0,none⟩),.pointer (some ⟨rb,3,none⟩)] w fun x w'=>x=.returned (.func (.func 144) #[] #[.pointer (some ⟨w.heap.size,0,none⟩)])∧w.grownBy w' (some rb)∧w.heap.size<w'.heap.size∧Rd w' rb e bl ((d+1:Nat):Int) ts v∧w'.heap[w.heap.size]? =some (.cells #[.pointer (some ⟨rb,3,none⟩)] 185 (0,0)):=by
 have hmf:=mkF
 obtain⟨c0,c1,c2,c3⟩:=h.cells
 have z3:=h.frozen 3
 have hlt:=h.lt
 have hn:(((d:Nat):Int)==12)=false:=by simp;omega
 have H:Hid (∀o,Rd ((w.setCell ⟨rb,3,none⟩ (.int .i64 ((d+1:Nat):Int))).alloc o) rb e bl ((d+1:Nat):Int) ts v):=fun o=>(h.setPr _).keeps ((Below.refl _ _).alloc (Nat.le_refl _) o) (by simpa[World.setCell] using h.lt)
 clear h
 go_enter Tryz.func105,Tryz.ntmps105
 go_wp2
 go_ret
 refine⟨rfl,grown_alloc (grown_set (grown_refl _ _) rfl _) _,by simp[World.setCell],H.out _,heap_at_alloc _ _ _ (by simp[World.setCell])⟩
theorem rOut {w:World}{rb e d bx:Nat}{bl:Int}{ts:List Tok}{v:Value}(u:FrameMode)(h:Rd w rb e bl ((d+1:Nat):Int) ts v)(hb:w.heap[bx]? =some (.cells #[.pointer (some ⟨rb,3,none⟩)] 185 (0,0)))(hd:d≤12):
 CallsD Tryz.prog 144 #[.pointer (some ⟨bx,0,none⟩)] u w fun x u' w'=>u'=u∧(x=.returned (.tuple #[])∧w'=w.setCell ⟨rb,3,none⟩ (.int .i64 d)∧Rd w' rb e bl d ts v):=by
 obtain⟨c0,c1,c2,c3⟩:=h.cells
 have z3:=h.frozen 3
 have hlt:=h.lt
 have k0:w.cell? ⟨bx,0,none⟩=some (.pointer (some ⟨rb,3,none⟩)):=by simp[World.cell?,hb]
 have H:Hid (Rd (w.setCell ⟨rb,3,none⟩ (.int .i64 (d:Int))) rb e bl d ts v):=h.setPr _
 clear h
 go_enter_d Tryz.func144,Tryz.ntmps144
 go_wp2
 go_end0
 exact⟨rfl,rfl,H.out⟩
open Par (Tok nx atP isT ba Res)
theorem own_kept {w w':World}{B e sz rb n:Nat}{v:Value}{cs:List Value}(h:w.ownsRow B e sz v n cs)(hg:w.grownBy w' (some rb))(hr:rb<B):w'.ownsRow B e sz v n cs:=h.kept hg (by
 cases hv:v.ownBlock with
 | none=>exact .inl rfl
 | some k=>
  right
  have:=(h.lt k hv).1
  simp;omega)
theorem own_slice {w:World}{B e sz n:Nat}{v:Value}{cs:List Value}(h:w.ownsRow B e sz v n cs):∃ao c,v=.slice ao n c:=by
 rcases h.2 with⟨hv,h0⟩|⟨g,cap,cur,rfl,_⟩
 ·exact⟨none,0,by rw[hv,h0]⟩
 ·exact⟨_,cap,rfl⟩
def MoP {α:Type}(El:World→(Nat→Prop)→α→List Value→Prop)(w:World)(rb e:Nat)(bl pr:Int)(B ty sz most n:Nat)(css:List (List Value))(lv:Value)(ts:List Tok)(pt:Res α)(x:Ending)(w':World):Prop:=
 (n=most∧x=goneE 2 (atP e ts)∧w'=w)∨(n≠most∧((∃c q,pt=.no c q∧x=goneE c q∧w.grownBy w' (some rb)∧∃r v',Rd w' rb e bl pr r v')∨
  ∃a r u v' xs w1,pt=.ok a r∧x=.returned u∧w.grownBy w1 (some rb)∧El w1 (fun b=>w.heap.size≤b) a xs∧w1.grownBy w' lv.ownBlock∧w'.ownsRow B ty sz u (n+1) (css.flatten++xs)∧(u.ownBlock=lv.ownBlock∨u.ownBlock=some w1.heap.size)∧Rd w1 rb e bl pr r v'))
theorem mop_of {α:Type}{El:World→(Nat→Prop)→α→List Value→Prop}{w w':World}{rb e B ty sz most:Nat}{bl pr:Int}{css:List (List Value)}{lv v:Value}{ts:List Tok}{pt:Res α}{acc:List α}{x:Ending}(K:IsEl El sz)(h:Rd w rb e bl pr ts v)(hrB:rb<B)(hB:B≤w.heap.size)(h1:w.ownsRow B ty sz lv acc.length css.flatten)(h2:css.length=acc.length)(h3:∀i (h:i<acc.length) (h':i<css.length),El w (SB B lv) acc[i] css[i])
 (hp:MoP El w rb e bl pr B ty sz most acc.length css lv ts pt x w'):PostB B w rb e bl pr (if acc.length=most then .no 2 (atP e ts) else pt.bind fun a r=>.ok (acc++[a]) r) (fun w' l u=>OwnL El w' B ty sz u l) x w':=by
 rcases hp with⟨hf,rfl,rfl⟩|⟨hf,⟨c,q,rfl,rfl,hg,r,v',hr⟩|⟨a,r,u,v',xs,w1,rfl,rfl,hg,hx,hg2,hown,hat,hrd⟩⟩
 ·rw[if_pos hf];exact⟨Fr.of_below (Below.refl _ _),.inr ⟨_,_,rfl,rfl,_,_,h⟩⟩
 ·rw[if_neg hf];exact⟨Fr.of_grown hg hB,.inr ⟨_,_,rfl,rfl,_,_,hr⟩⟩
 ·rw[if_neg hf]
  have hL:=h1.lt
  have hz:=hg.size
  have hb:Below B w1 w':=⟨hg2.os,hg2.tape,hg2.output,hg2.size,fun k hk=>hg2.block k (by omega) (fun hh=>by have:=(hL k hh.symm).1;omega)⟩
  refine⟨(Fr.of_grown hg hB).trans (Fr.of_below hb),.inl ⟨acc++[a],r,rfl,u,v',rfl,?_,hrd.keeps hb hrB⟩⟩
  exact OwnL.add K (w:=w) (w1:=w1) (fun k hk=>(hL k hk).2) h2 (fun i hi hi'=>K.keeps (h3 i hi hi') (Keeps.of_grown hg fun b hb=>by have:=hb.1;simp;omega)) hx hB hown hg2 hat
end Go.Proofs.YtepkhlpjgnckkaaGreatDoor
