/- Lists that a call gathers: a row of its own, and what its things lead to, apart from it. And more of the same. -/
import Derived.Test.YtepkhlpjgnckkaaGreatDoorZA1
import Derived.Test.YtepkhlpjgnckkaaGreatDoorZA2
import Derived.BigQuiet
import Derived.BigRegion
import Derived.Deep.CutBlock
import Derived.Deep.MidRow
import Derived.Deep.RegionLawGrows
import Derived.Maps.Own
import Derived.Maps.OwnOps
import Derived.Maps.OwnSet
import Derived.Maps.Views
import Derived.Maps.RangeWalk
import Derived.StringKeys
import Derived.Laws.EntriesVeiled
namespace Go.Proofs.YtepkhlpjgnckkaaGreatDoor
set_option maxRecDepth 100000
set_option maxHeartbeats 8000000
open Go.RowKit
structure IsEl {α:Type}(El:World→(Nat→Prop)→α→List Value→Prop)(sz:Nat):Prop where
 keeps:∀{w w':World} {S:Nat→Prop} {a:α} {cs:List Value},El w S a cs→Keeps S w w'→El w' S a cs
 mono:∀{w:World} {S S':Nat→Prop} {a:α} {cs:List Value},El w S a cs→(∀b,S b→b<w.heap.size→S' b)→El w S' a cs
 len:∀{w:World} {S:Nat→Prop} {a:α} {cs:List Value},El w S a cs→cs.length=sz
 one:∀{w:World} {S:Nat→Prop} {a:α} {cs:List Value},El w S a cs→∀u∈cs,u.oneCell'=true
def SB (B:Nat)(v:Value):Nat→Prop:=fun b=>B≤b∧some b≠v.ownBlock
structure OwnL {α:Type}(El:World→(Nat→Prop)→α→List Value→Prop)(w:World)(B e sz:Nat)(v:Value)(acc:List α):Prop where
 ex:∃css:List (List Value),w.ownsRow B e sz v acc.length css.flatten∧css.length=acc.length∧∀i (h:i<acc.length) (h':i<css.length),El w (SB B v) acc[i] css[i]
theorem OwnL.nil {α:Type}(El:World→(Nat→Prop)→α→List Value→Prop)(w:World)(B e sz:Nat):OwnL El w B e sz (.slice none 0 0) []:=
 ⟨[],World.ownsRow_nil _ _ _ _,rfl,fun i hi=>by simp at hi⟩
theorem OwnL.slice {α:Type}{El:World→(Nat→Prop)→α→List Value→Prop}{w:World}{B e sz:Nat}{v:Value}{acc:List α}(h:OwnL El w B e sz v acc):∃ao c,v=.slice ao acc.length c:=by
 obtain⟨css,h1,_⟩:=h.ex
 rcases h1.2 with⟨hv,h0⟩|⟨g,cap,cur,rfl,_⟩
 ·exact⟨none,0,by rw[hv,h0]⟩
 ·exact⟨_,cap,rfl⟩
theorem OwnL.grown {α:Type}{El:World→(Nat→Prop)→α→List Value→Prop}{w w':World}{B e sz rb:Nat}{v:Value}{acc:List α}(K:IsEl El sz)(h:OwnL El w B e sz v acc)(hg:w.grownBy w' (some rb))(hr:rb<B):OwnL El w' B e sz v acc:=by
 obtain⟨css,h1,h2,h3⟩:=h.ex
 refine⟨css,h1.kept hg ?_,h2,fun i hi hi'=>K.keeps (h3 i hi hi') (Keeps.of_grown hg fun b hb=> ?_)⟩
 ·cases hv:v.ownBlock with
  | none=>exact .inl rfl
  | some k=>
   right
   have:=(h1.lt k hv).1
   simp;omega
 ·have:=hb.1
  simp;omega
theorem OwnL.below {α:Type}{El:World→(Nat→Prop)→α→List Value→Prop}{w w':World}{B e sz:Nat}{v:Value}{acc:List α}(K:IsEl El sz)(h:OwnL El w B e sz v acc)(hb:Below w.heap.size w w'):OwnL El w' B e sz v acc:=by
 obtain⟨css,h1,h2,h3⟩:=h.ex
 refine⟨css,h1.kept (row:=none) ⟨hb.os,hb.tape,hb.output,hb.size,fun k hk _=>hb.block k hk⟩ ?_,h2,fun i hi hi'=>K.keeps (h3 i hi hi') (Keeps.of_below hb)⟩
 cases hv:v.ownBlock
 ·exact .inl rfl
 ·exact .inr (by simp)
theorem OwnL.one {α:Type}{El:World→(Nat→Prop)→α→List Value→Prop}{w:World}{B e sz:Nat}{a:α}{xs:Array Value}(K:IsEl El sz)(h:El w (fun b=>B≤b) a xs.toList)(hB:B≤w.heap.size):OwnL El (w.alloc (.cells xs e)) B e sz (.slice (some ⟨w.heap.size,0,none⟩) 1 1) [a]:=by
 have hl:=K.len h
 refine⟨[xs.toList],⟨by simpa using hl,.inr ⟨w.heap.size,1,xs,rfl,hB,heap_alloc_new w _,by simp,by simp[maxLen],by simpa using hl,by simp only[Nat.one_mul,List.flatten_cons,List.flatten_nil,List.append_nil,List.length_singleton];rw[List.take_of_length_le (by omega)]⟩⟩,rfl,fun i hi hi'=> ?_⟩
 have hi0:i=0:=by simp at hi;omega
 subst hi0
 refine K.keeps (w:=w) (K.mono h fun b hb hl=>⟨hb,?_⟩) (Keeps.of_below ((Below.refl _ _).alloc (Nat.le_refl _) _))
 simp only[Value.ownBlock,ne_eq,Option.some.injEq]
 omega
theorem OwnL.add {α:Type}{El:World→(Nat→Prop)→α→List Value→Prop}{w w1 w2:World}{B e sz:Nat}{v v':Value}{acc:List α}{a:α}{xs:List Value}{css:List (List Value)}(K:IsEl El sz)
 (hown:∀k,v.ownBlock=some k→k<w.heap.size) (hcl:css.length=acc.length) (h3:∀i (h:i<acc.length) (h':i<css.length),El w1 (SB B v) acc[i] css[i])
 (hx:El w1 (fun b=>w.heap.size≤b) a xs) (hB:B≤w.heap.size)
 (h2:w2.ownsRow B e sz v' (acc.length+1) (css.flatten++xs)) (hg:w1.grownBy w2 v.ownBlock) (hv:v'.ownBlock=v.ownBlock∨v'.ownBlock=some w1.heap.size):OwnL El w2 B e sz v' (acc++[a]):=by
 have key:∀{b:α} {cs:List Value},El w1 (SB B v) b cs→El w2 (SB B v') b cs:=fun{b cs} hb=>by
  have e1:El w1 (fun b=>SB B v b∧some b≠v'.ownBlock) b cs:=K.mono hb fun k hk hl=>⟨hk,by
   rcases hv with hv | hv
   ·rw[hv];exact hk.2
   ·rw[hv];simp;omega⟩
  exact K.mono (K.keeps e1 (Keeps.of_grown hg fun k hk=>hk.1.2)) fun k hk _=>⟨hk.1.1,hk.2⟩
 refine⟨css++[xs],by simpa using h2,by simp[hcl],fun i hi hi'=> ?_⟩
 by_cases hlt:i<acc.length
 ·have:=key (h3 i hlt (by omega))
  rw[List.getElem_append_left hlt,List.getElem_append_left (by omega)]
  exact this
 ·have hi2:i=acc.length:=by simp at hi;omega
  subst hi2
  have e2:El w1 (SB B v) a xs:=K.mono hx fun k hk _=>⟨by omega,fun hh=>by have:=hown k hh.symm;omega⟩
  have:=key e2
  rw[List.getElem_append_right (Nat.le_refl _),List.getElem_append_right (by omega)]
  simpa[hcl] using this
theorem OwnL.row {α:Type}{El:World→(Nat→Prop)→α→List Value→Prop}{w:World}{B e sz:Nat}{v:Value}{acc:List α}(K:IsEl El sz)(h:OwnL El w B e sz v acc):
 ∃css,RowV w (fun b=>B≤b) sz v css∧css.length=acc.length∧∀i (h:i<acc.length) (h':i<css.length),El w (fun b=>B≤b) acc[i] css[i]:=by
 obtain⟨css,h1,h2,h3⟩:=h.ex
 refine⟨css,RowV.of_own h1 h2.symm (fun i hi=>K.len (h3 i (by omega) hi)) (fun b hb=>hb),h2,fun i hi hi'=>K.mono (h3 i hi hi') fun b hb _=>hb.1⟩
def lenOf:Value→Nat
 | .slice _ n _=>n
 | _=>0
theorem OwnL.len {α:Type}{El:World→(Nat→Prop)→α→List Value→Prop}{w:World}{B e sz:Nat}{v:Value}{acc:List α}(h:OwnL El w B e sz v acc):lenOf v=acc.length:=by
 obtain⟨ao,c,rfl⟩:=h.slice
 rfl
def ElS (_:World)(_:Nat→Prop)(a:ByteArray)(cs:List Value):Prop:=cs=[.string a]∧a.size≤maxLen
def ElP (w:World)(S:Nat→Prop)(a:Par.Po)(cs:List Value):Prop:=∃u,cs=[.string a.1,u]∧a.1.size≤maxLen∧StrsV w S u a.2
def ElT (w:World)(S:Nat→Prop)(a:Par.Tr)(cs:List Value):Prop:=TrIs w S a cs
theorem isElS:IsEl ElS 1:=⟨fun h _=>h,fun h _=>h,fun h=>by rw[h.1];rfl,fun h u hu=>by rw[h.1,List.mem_singleton] at hu;subst hu;rfl⟩
theorem RowV.val {w:World}{S:Nat→Prop}{sz:Nat}{v:Value}{css:List (List Value)}(h:RowV w S sz v css):∃ao c,v=.slice ao css.length c:=by
 obtain⟨ao,b,off,c,hv,_⟩:=h
 exact⟨ao,c,hv⟩
theorem isElP:IsEl ElP 2:=by
 refine⟨fun h k=> ?_,fun h k=> ?_,fun h=> ?_,fun h u hu=> ?_⟩
 ·obtain⟨u,h1,h2,h3⟩:=h;exact⟨u,h1,h2,h3.keeps k⟩
 ·obtain⟨u,h1,h2,h3⟩:=h;exact⟨u,h1,h2,h3.mono k⟩
 ·obtain⟨u,h1,h2,h3⟩:=h;rw[h1];rfl
 ·obtain⟨v,h1,h2,h3⟩:=h
  obtain⟨ao,c,hv⟩:=h3.row.val
  rw[h1] at hu
  simp only[List.mem_cons,List.not_mem_nil,or_false] at hu
  rcases hu with rfl | rfl
  ·rfl
  ·rw[hv];rfl
theorem LabV.val {w:World}{S:Nat→Prop}{v:Value}{l:List Par.Po}(h:LabV w S v l):∃ao c,v=.slice ao l.length c:=by
 obtain⟨vs,h1,h2,h3⟩:=h.ex
 obtain⟨ao,c,hv⟩:=h2.val
 refine⟨ao,c,?_⟩
 rw[hv,(polCs_at h1).1]
theorem isElT:IsEl ElT 7:=by
 refine⟨fun h k=>TrIs.keeps h k,fun h k=>TrIs.mono h k,fun h=>TrIs.len h,fun h u hu=> ?_⟩
 cases h with
 | mk hs hl hr hc hk=>
  obtain⟨ao,c,hv⟩:=hl.val
  obtain⟨ao',c',hv'⟩:=hr.val
  subst hv hv'
  simp only[List.mem_cons,List.not_mem_nil,or_false] at hu
  rcases hu with rfl | rfl | rfl | rfl | rfl | rfl | rfl<;>rfl
theorem OwnL.strs {w:World}{B e:Nat}{v:Value}{l:List ByteArray}(h:OwnL ElS w B e 1 v l):StrsV w (fun b=>B≤b) v l:=by
 obtain⟨css,h1,h2,h3⟩:=h.row isElS
 have e0:css=strCs l:=by
  refine List.ext_getElem (by simp[strCs,h2]) fun i hi hi'=> ?_
  rw[(h3 i (by omega) hi).1];simp[strCs]
 refine⟨by rw[←e0];exact h1,fun s hs=> ?_⟩
 obtain⟨i,hi,rfl⟩:=List.mem_iff_getElem.1 hs
 exact(h3 i hi (by omega)).2
theorem OwnL.label {w:World}{B e:Nat}{v:Value}{l:List Par.Po}(h:OwnL ElP w B e 2 v l):LabV w (fun b=>B≤b) v l:=by
 obtain⟨css,h1,h2,h3⟩:=h.row isElP
 have hv:∀i (hi:i<l.length),∃u,css[i]'(by omega)=[.string l[i].1,u]∧l[i].1.size≤maxLen∧StrsV w (fun b=>B≤b) u l[i].2:=fun i hi=>h3 i hi (by omega)
 let f:Nat→Value:=fun i=>if hi:i<l.length then(hv i hi).choose else .bool false
 have hf:∀i (hi:i<l.length),css[i]'(by omega)=[.string l[i].1,f i]∧l[i].1.size≤maxLen∧StrsV w (fun b=>B≤b) (f i) l[i].2:=fun i hi=>by
  have:=(hv i hi).choose_spec
  simp only[f,hi,dif_pos]
  exact this
 refine⟨⟨(List.range l.length).map f,by simp,?_,fun i hi hi'=> ?_⟩,fun p hp=> ?_⟩
 ·have e0:css=polCs l ((List.range l.length).map f):=by
   refine List.ext_getElem (by simp[polCs,h2]) fun i hi hi'=> ?_
   rw[(hf i (by omega)).1];simp[polCs]
  rw[←e0];exact h1
 ·simpa using(hf i hi).2.2
 ·obtain⟨i,hi,rfl⟩:=List.mem_iff_getElem.1 hp
  exact(hf i hi).2.1
open Par (Tr Po Stm Prm Chn Prc Prg)
def RwV {α:Type}(El:World→(Nat→Prop)→α→List Value→Prop)(w:World)(S:Nat→Prop)(sz:Nat)(v:Value)(l:List α):Prop:=∃css,RowV w S sz v css∧css.length=l.length∧∀i (h:i<l.length) (h':i<css.length),El w S l[i] css[i]
theorem RwV.keeps {α:Type}{El:World→(Nat→Prop)→α→List Value→Prop}{w w':World}{S:Nat→Prop}{sz:Nat}{v:Value}{l:List α}(hE:∀{a:α} {cs:List Value},El w S a cs→El w' S a cs)(h:RwV El w S sz v l)(k:Keeps S w w'):RwV El w' S sz v l:=by
 obtain⟨css,h1,h2,h3⟩:=h
 exact⟨css,h1.keeps k,h2,fun i hi hi'=>hE (h3 i hi hi')⟩
theorem RwV.mono {α:Type}{El:World→(Nat→Prop)→α→List Value→Prop}{w:World}{S S':Nat→Prop}{sz:Nat}{v:Value}{l:List α}(hE:∀{a:α} {cs:List Value},El w S a cs→El w S' a cs)(h:RwV El w S sz v l)(k:∀b,S b→b<w.heap.size→S' b):RwV El w S' sz v l:=by
 obtain⟨css,h1,h2,h3⟩:=h
 exact⟨css,h1.mono k,h2,fun i hi hi'=>hE (h3 i hi hi')⟩
theorem RwV.val {α:Type}{El:World→(Nat→Prop)→α→List Value→Prop}{w:World}{S:Nat→Prop}{sz:Nat}{v:Value}{l:List α}(h:RwV El w S sz v l):∃ao c,v=.slice ao l.length c:=by
 obtain⟨css,h1,h2,_⟩:=h
 obtain⟨ao,c,hv⟩:=h1.val
 exact⟨ao,c,by rw[hv,h2]⟩
theorem RwV.none {α:Type}(El:World→(Nat→Prop)→α→List Value→Prop)(w:World)(S:Nat→Prop)(sz:Nat):RwV El w S sz (.slice none 0 0) []:=⟨[],RowV.none _ _ _ _,rfl,fun i h=>by simp at h⟩
theorem OwnL.rows {α:Type}{El:World→(Nat→Prop)→α→List Value→Prop}{w:World}{B e sz:Nat}{v:Value}{l:List α}(K:IsEl El sz)(h:OwnL El w B e sz v l):RwV El w (fun b=>B≤b) sz v l:=h.row K
def PmIs (w:World)(S:Nat→Prop)(q:Prm)(cs:List Value):Prop:=∃lv,cs=[.string q.name,.int .i64 q.type,lv]∧q.name.size≤maxLen∧LabV w S lv q.lab
def ChIs (w:World)(S:Nat→Prop)(c:Chn)(cs:List Value):Prop:=∃lv,cs=[.int .i64 c.at_,.string c.name,.bool c.inw,.int .i64 c.type,lv]∧c.name.size≤maxLen∧LabV w S lv c.lab
def AcIs (_:World)(_:Nat→Prop)(q:ByteArray×ByteArray)(cs:List Value):Prop:=cs=[.string q.1,.string q.2]∧q.1.size≤maxLen∧q.2.size≤maxLen
theorem lab_one {w:World}{S:Nat→Prop}{v:Value}{l:List Po}(h:LabV w S v l):v.oneCell'=true:=by
 obtain⟨ao,c,rfl⟩:=h.val
 rfl
theorem isElM:IsEl PmIs 3:=by
 refine⟨fun h k=> ?_,fun h k=> ?_,fun h=> ?_,fun h u hu=> ?_⟩
 ·obtain⟨lv,h1,h2,h3⟩:=h;exact⟨lv,h1,h2,h3.keeps k⟩
 ·obtain⟨lv,h1,h2,h3⟩:=h;exact⟨lv,h1,h2,h3.mono k⟩
 ·obtain⟨lv,h1,_⟩:=h;rw[h1];rfl
 ·obtain⟨lv,h1,h2,h3⟩:=h
  rw[h1] at hu
  simp only[List.mem_cons,List.not_mem_nil,or_false] at hu
  rcases hu with rfl | rfl | rfl<;>first | rfl | exact lab_one h3
theorem isElC:IsEl ChIs 5:=by
 refine⟨fun h k=> ?_,fun h k=> ?_,fun h=> ?_,fun h u hu=> ?_⟩
 ·obtain⟨lv,h1,h2,h3⟩:=h;exact⟨lv,h1,h2,h3.keeps k⟩
 ·obtain⟨lv,h1,h2,h3⟩:=h;exact⟨lv,h1,h2,h3.mono k⟩
 ·obtain⟨lv,h1,_⟩:=h;rw[h1];rfl
 ·obtain⟨lv,h1,h2,h3⟩:=h
  rw[h1] at hu
  simp only[List.mem_cons,List.not_mem_nil,or_false] at hu
  rcases hu with rfl | rfl | rfl | rfl | rfl<;>first | rfl | exact lab_one h3
theorem isElA:IsEl AcIs 2:=⟨fun h _=>h,fun h _=>h,fun h=>by rw[h.1];rfl,fun h u hu=>by
 rw[h.1] at hu
 simp only[List.mem_cons,List.not_mem_nil,or_false] at hu
 rcases hu with rfl | rfl<;>rfl⟩
inductive StIs (w:World)(S:Nat→Prop):Stm→List Value→Prop
 | mk {k p:Int} {s o:ByteArray} {d:Bool} {l:List Po} {e:Tr} {a b:List Stm} {lv av bv:Value} {ce:List Value} {csa csb:List (List Value)} (hs:s.size≤maxLen) (ho:o.size≤maxLen) (hl:LabV w S lv l) (he:TrIs w S e ce) (hra:RowV w S 15 av csa) (hca:csa.length=a.length) (hrb:RowV w S 15 bv csb) (hcb:csb.length=b.length)
  (hka:∀i (h:i<a.length) (h':i<csa.length),StIs w S a[i] csa[i]) (hkb:∀i (h:i<b.length) (h':i<csb.length),StIs w S b[i] csb[i]):StIs w S (.mk k p s o d l e a b) ([.int .i64 k,.int .i64 p,.string s,.string o,.bool d,lv]++ce++[av,bv])
theorem StIs.len {w:World}{S:Nat→Prop}{t:Stm}{cs:List Value}(h:StIs w S t cs):cs.length=15:=by
 cases h with
 | mk hs ho hl he=>simp[he.len]
theorem StIs.keeps {w w':World}{S:Nat→Prop}{t:Stm}{cs:List Value}(h:StIs w S t cs)(k:Keeps S w w'):StIs w' S t cs:=by
 induction h with
 | mk hs ho hl he hra hca hrb hcb _ _ iha ihb=>exact .mk hs ho (hl.keeps k) (he.keeps k) (hra.keeps k) hca (hrb.keeps k) hcb iha ihb
theorem StIs.mono {w:World}{S S':Nat→Prop}{t:Stm}{cs:List Value}(h:StIs w S t cs)(k:∀b,S b→b<w.heap.size→S' b):StIs w S' t cs:=by
 induction h with
 | mk hs ho hl he hra hca hrb hcb _ _ iha ihb=>exact .mk hs ho (hl.mono k) (he.mono k) (hra.mono k) hca (hrb.mono k) hcb iha ihb
theorem isElSt:IsEl StIs 15:=by
 refine⟨fun h k=>h.keeps k,fun h k=>h.mono k,fun h=>h.len,fun h u hu=> ?_⟩
 cases h with
 | mk hs ho hl he hra hca hrb hcb hka hkb=>
  simp only[List.mem_append,List.mem_cons,List.not_mem_nil,or_false] at hu
  rcases hu with((rfl | rfl | rfl | rfl | rfl | rfl)| hu)| rfl | rfl
  ·rfl
  ·rfl
  ·rfl
  ·rfl
  ·rfl
  ·exact lab_one hl
  ·exact isElT.one he u hu
  ·obtain⟨ao,c,rfl⟩:=hra.val;rfl
  ·obtain⟨ao,c,rfl⟩:=hrb.val;rfl
theorem StIs.rows {w:World}{S:Nat→Prop}{k p:Int}{s o:ByteArray}{d:Bool}{l:List Po}{e:Tr}{a b:List Stm}{cs:List Value}(h:StIs w S (.mk k p s o d l e a b) cs):∃lv ce av bv,cs=[.int .i64 k,.int .i64 p,.string s,.string o,.bool d,lv]++ce++[av,bv]∧s.size≤maxLen∧o.size≤maxLen∧LabV w S lv l∧TrIs w S e ce∧RwV StIs w S 15 av a∧RwV StIs w S 15 bv b:=by
 cases h with
 | mk hs ho hl he hra hca hrb hcb hka hkb=>exact⟨_,_,_,_,rfl,hs,ho,hl,he,⟨_,hra,hca,hka⟩,⟨_,hrb,hcb,hkb⟩⟩
theorem StIs.of {w:World}{S:Nat→Prop}{k p:Int}{s o:ByteArray}{d:Bool}{l:List Po}{e:Tr}{a b:List Stm}{lv av bv:Value}{ce:List Value}(hs:s.size≤maxLen)(ho:o.size≤maxLen)(hl:LabV w S lv l)(he:TrIs w S e ce)(ha:RwV StIs w S 15 av a)(hb:RwV StIs w S 15 bv b):StIs w S (.mk k p s o d l e a b) ([.int .i64 k,.int .i64 p,.string s,.string o,.bool d,lv]++ce++[av,bv]):=by
 obtain⟨csa,a1,a2,a3⟩:=ha
 obtain⟨csb,b1,b2,b3⟩:=hb
 exact .mk hs ho hl he a1 a2 b1 b2 a3 b3
def PcIs (w:World)(S:Nat→Prop)(p:Prc)(cs:List Value):Prop:=∃pv rl bv fv yv,cs=[.int .i64 p.at_,.string p.name,pv,.string p.result.name,.int .i64 p.result.type,rl,bv,fv,yv]∧p.name.size≤maxLen∧p.result.name.size≤maxLen∧RwV PmIs w S 3 pv p.params∧LabV w S rl p.result.lab∧LabV w S bv p.begin_∧StrsV w S fv p.for_∧RwV StIs w S 15 yv p.body
theorem isElPc:IsEl PcIs 9:=by
 refine⟨fun h k=> ?_,fun h k=> ?_,fun h=> ?_,fun h u hu=> ?_⟩
 ·obtain⟨pv,rl,bv,fv,yv,h1,h2,h3,h4,h5,h6,h7,h8⟩:=h
  exact⟨pv,rl,bv,fv,yv,h1,h2,h3,h4.keeps (fun h=>isElM.keeps h k) k,h5.keeps k,h6.keeps k,h7.keeps k,h8.keeps (fun h=>h.keeps k) k⟩
 ·obtain⟨pv,rl,bv,fv,yv,h1,h2,h3,h4,h5,h6,h7,h8⟩:=h
  exact⟨pv,rl,bv,fv,yv,h1,h2,h3,h4.mono (fun h=>isElM.mono h k) k,h5.mono k,h6.mono k,h7.mono k,h8.mono (fun h=>h.mono k) k⟩
 ·obtain⟨pv,rl,bv,fv,yv,h1,_⟩:=h;rw[h1];rfl
 ·obtain⟨pv,rl,bv,fv,yv,h1,h2,h3,h4,h5,h6,h7,h8⟩:=h
  rw[h1] at hu
  simp only[List.mem_cons,List.not_mem_nil,or_false] at hu
  rcases hu with rfl | rfl | rfl | rfl | rfl | rfl | rfl | rfl | rfl
  ·rfl
  ·rfl
  ·obtain⟨ao,c,rfl⟩:=h4.val;rfl
  ·rfl
  ·rfl
  ·exact lab_one h5
  ·exact lab_one h6
  ·obtain⟨ao,c,rfl⟩:=h7.row.val;rfl
  ·obtain⟨ao,c,rfl⟩:=h8.val;rfl
def PgIs (w:World)(S:Nat→Prop)(p:Prg)(cs:List Value):Prop:=∃cv av nv qv,cs=[cv,av,nv,qv]∧StrsV w S cv p.chiefs∧RwV AcIs w S 2 av p.acts∧RwV ChIs w S 5 nv p.chans∧RwV PcIs w S 9 qv p.procs
theorem PgIs.keeps {w w':World}{S:Nat→Prop}{p:Prg}{cs:List Value}(h:PgIs w S p cs)(k:Keeps S w w'):PgIs w' S p cs:=by
 obtain⟨cv,av,nv,qv,h1,h2,h3,h4,h5⟩:=h
 exact⟨cv,av,nv,qv,h1,h2.keeps k,h3.keeps (fun h=>isElA.keeps h k) k,h4.keeps (fun h=>isElC.keeps h k) k,h5.keeps (fun h=>isElPc.keeps h k) k⟩
theorem PgIs.mono {w:World}{S S':Nat→Prop}{p:Prg}{cs:List Value}(h:PgIs w S p cs)(k:∀b,S b→b<w.heap.size→S' b):PgIs w S' p cs:=by
 obtain⟨cv,av,nv,qv,h1,h2,h3,h4,h5⟩:=h
 exact⟨cv,av,nv,qv,h1,h2.mono k,h3.mono (fun h=>isElA.mono h k) k,h4.mono (fun h=>isElC.mono h k) k,h5.mono (fun h=>isElPc.mono h k) k⟩
open Par (Tr Stm Prm Chn Prc Prg Po ba)
def LiIs (w:World)(L:Nat)(x:Option Addr)(l:List Int):Prop:=l=[]∨∃b off,x=some ⟨b,off,none⟩∧b<L∧∀i (h:i<l.length),w.cell? ⟨b,off+i,none⟩=some (.int .i64 l[i])
theorem LiIs.keeps {w w':World}{L:Nat}{x:Option Addr}{l:List Int}(h:LiIs w L x l)(hk:∀b,b<L→w'.heap[b]? =w.heap[b]?):LiIs w' L x l:=by
 rcases h with h |⟨b,off,h1,h2,h3⟩
 ·exact .inl h
 ·exact .inr ⟨b,off,h1,h2,fun i hi=>(World.cell?_of_block (a:=⟨b,off+i,none⟩) (hk b h2)).trans (h3 i hi)⟩
def EvIs (_:World)(_:Nat→Prop)(n:Int)(cs:List Value):Prop:=∃s l,cs=[.string s,.int .i64 n,l]∧l.oneCell'=true
theorem isElEv:IsEl EvIs 3:=⟨fun h _=>h,fun h _=>h,fun h=>by obtain⟨s,l,rfl,_⟩:=h;rfl,fun h u hu=>by
 obtain⟨s,l,rfl,hl⟩:=h
 simp only[List.mem_cons,List.not_mem_nil,or_false] at hu
 rcases hu with rfl | rfl | rfl
 ·rfl
 ·rfl
 ·exact hl⟩
structure RS (w:World)(L rb pb lb fuel lc:Nat)(ev:Value)(g:Rr.Sg):Prop where
 blk:w.heap[rb]? =some (.cells #[ev,.bool false,.int .i64 (g.steps:Nat),.pointer (some ⟨pb,0,none⟩),.slice (some ⟨lb,0,none⟩) g.left.length lc,.int .i64 (fuel:Nat)] 64 (0,0))
 lef:∃C:Array Value,w.heap[lb]? =some (.cells C 48 (0,0))∧∀i (h:i<g.left.length),∃x c,C[i]? =some (.slice x g.left[i].length c)∧g.left[i].length≤c∧LiIs w L x g.left[i]
 evs:OwnL EvIs w L 52 3 ev g.evs
 rl:L≤rb
 ll:L≤lb
 ne:rb≠lb
 eb:∀k,ev.ownBlock=some k→k≠rb∧k≠lb∧k≠pb
 pn:pb≠rb∧pb≠lb
 ef:g.evs.length≤g.steps
 sf:g.steps≤fuel
 ff:fuel≤3000
 lf:g.left.length≤lc∧lc≤9223372036854775807
structure Sm (w w':World):Prop where
 os:w'.os=w.os
 tape:w'.tape=w.tape
 out:w'.output=w.output
theorem Sm.refl (w:World):Sm w w:=⟨rfl,rfl,rfl⟩
theorem Sm.trans {a b c:World}(h:Sm a b)(g:Sm b c):Sm a c:=⟨g.os.trans h.os,g.tape.trans h.tape,g.out.trans h.out⟩
theorem Sm.bel {B:Nat}{w w':World}(h:Below B w w'):Sm w w':=⟨h.os,h.tape,h.output⟩
theorem Sm.gro {r:Option Nat}{w w':World}(h:w.grownBy w' r):Sm w w':=⟨h.os,h.tape,h.output⟩
theorem Sm.set (w:World)(a:Addr)(v:Value):Sm w (w.setCell a v):=⟨rfl,rfl,rfl⟩
structure Kr (rb lb:Nat)(ev ev':Value)(w w':World):Prop where
 kp:Keeps (fun b=>b≠rb∧b≠lb∧some b≠ev.ownBlock) w w'
 ev:∀k,ev'.ownBlock=some k→ev.ownBlock=some k∨w.heap.size≤k
 sm:Sm w w'
theorem Kr.refl (rb lb:Nat)(ev:Value)(w:World):Kr rb lb ev ev w w:=⟨Keeps.refl _ _,fun _ h=>.inl h,Sm.refl _⟩
theorem Kr.trans {rb lb:Nat}{e0 e1 e2:Value}{w0 w1 w2:World}(h:Kr rb lb e0 e1 w0 w1)(g:Kr rb lb e1 e2 w1 w2):Kr rb lb e0 e2 w0 w2:=by
 refine⟨⟨Nat.le_trans h.kp.size g.kp.size,fun b hb hl=> ?_⟩,fun k hk=> ?_,h.sm.trans g.sm⟩
 ·rw[←h.kp.block b hb hl]
  refine g.kp.block b ⟨hb.1,hb.2.1,fun e=> ?_⟩ (Nat.lt_of_lt_of_le hl h.kp.size)
  rcases h.ev b e.symm with e' | e'
  ·exact hb.2.2 e'.symm
  ·omega
 ·rcases g.ev k hk with e | e
  ·rcases h.ev k e with e | e
   ·exact .inl e
   ·exact .inr e
  ·exact .inr (Nat.le_trans h.kp.size e)
theorem Kr.low {rb lb L:Nat}{ev ev':Value}{w w':World}(h:Kr rb lb ev ev' w w')(h1:L≤rb)(h2:L≤lb)(h3:∀k,ev.ownBlock=some k→L≤k){b:Nat}(hb:b<L)(hl:b<w.heap.size):w'.heap[b]? =w.heap[b]? :=h.kp.block b ⟨by omega,by omega,fun e=>by have:=h3 b e.symm;omega⟩ hl
theorem RS.evl {w:World}{L rb pb lb fuel lc:Nat}{ev:Value}{g:Rr.Sg}(h:RS w L rb pb lb fuel lc ev g):∀k,ev.ownBlock=some k→L≤k∧k<w.heap.size:=by
 obtain⟨css,h1,_⟩:=h.evs.ex
 exact h1.lt
theorem RS.drew {w:World}{L rb pb lb fuel lc:Nat}{ev:Value}{g:Rr.Sg}(h:RS w L rb pb lb fuel lc ev g)(n:Nat):RS (w.drewN n) L rb pb lb fuel lc ev g:=⟨h.blk,h.lef,⟨h.evs.ex⟩,h.rl,h.ll,h.ne,h.eb,h.pn,h.ef,h.sf,h.ff,h.lf⟩
theorem Kr.drew (rb lb:Nat)(ev:Value)(w:World)(n:Nat):Kr rb lb ev ev w (w.drewN n):=⟨⟨Nat.le_refl _,fun _ _ _=>rfl⟩,fun _ h=>.inl h,⟨rfl,rfl,rfl⟩⟩
theorem RS.set2 {w:World}{L rb pb lb fuel lc:Nat}{ev:Value}{g:Rr.Sg}(h:RS w L rb pb lb fuel lc ev g)(hs:g.steps<fuel):RS (w.setCell ⟨rb,2,none⟩ (.int .i64 ((g.steps+1:Nat):Int))) L rb pb lb fuel lc ev {g with steps:=g.steps+1}∧Kr rb lb ev ev w (w.setCell ⟨rb,2,none⟩ (.int .i64 ((g.steps+1:Nat):Int))):=by
 have hk:∀b,b≠rb→(w.setCell ⟨rb,2,none⟩ (.int .i64 ((g.steps+1:Nat):Int))).heap[b]? =w.heap[b]? :=fun b hb=>Below.heap_setCell _ _ _ _ hb
 have hrl:=h.rl
 refine⟨⟨?_,?_,?_,h.rl,h.ll,h.ne,h.eb,h.pn,by have:=h.ef;simp;omega,by simp;omega,h.ff,h.lf⟩,⟨⟨by simp[World.setCell],fun b hb _=>hk b hb.1⟩,fun k hk=>.inl hk,Sm.set _ _ _⟩⟩
 ·have:=h.blk
  simp[World.setCell,Array.getElem?_modify,this]
 ·obtain⟨C,h1,h2⟩:=h.lef
  refine⟨C,by rw[hk lb (Ne.symm h.ne)];exact h1,fun i hi=> ?_⟩
  obtain⟨x,c,e1,e2,e3⟩:=h2 i hi
  exact⟨x,c,e1,e2,e3.keeps fun b hb=>hk b (by omega)⟩
 ·obtain⟨css,h1,h2,h3⟩:=h.evs.ex
  exact⟨css,ownsRow_setCell_other h1 (fun e=>(h.eb rb e).1 rfl) _,h2,h3⟩
theorem RS.cells {w:World}{L rb pb lb fuel lc:Nat}{ev:Value}{g:Rr.Sg}(h:RS w L rb pb lb fuel lc ev g):w.cell? ⟨rb,0,none⟩=some ev∧w.cell? ⟨rb,2,none⟩=some (.int .i64 (g.steps:Nat))∧w.cell? ⟨rb,3,none⟩=some (.pointer (some ⟨pb,0,none⟩))∧w.cell? ⟨rb,4,none⟩=some (.slice (some ⟨lb,0,none⟩) g.left.length lc)∧w.cell? ⟨rb,5,none⟩=some (.int .i64 (fuel:Nat))∧(∀i,w.frozen? ⟨rb,i,none⟩=false)∧rb<w.heap.size:=by
 have hb:=h.blk
 refine⟨?_,?_,?_,?_,?_,fun i=> ?_,lt_of_block hb⟩<;>simp[World.cell?,World.frozen?,hb]
theorem stepC {w:World}{L rb pb lb fuel lc:Nat}{ev:Value}{g:Rr.Sg}(h:RS w L rb pb lb fuel lc ev g)(hs:g.steps<fuel):
 Calls Tryz.prog 91 #[.pointer (some ⟨rb,0,none⟩)] w fun x w'=>x=.returned (.tuple #[])∧RS w' L rb pb lb fuel lc ev {g with steps:=g.steps+1}∧Kr rb lb ev ev w w':=by
 obtain⟨_,c2,_,_,c5,hz,hlt⟩:=h.cells
 have hz2:=hz 2
 have hff:=h.ff
 have HS:Hid (∀q,RS ((w.drewN q).setCell ⟨rb,2,none⟩ (.int .i64 ((g.steps+1:Nat):Int))) L rb pb lb fuel lc ev {g with steps:=g.steps+1}∧Kr rb lb ev ev w ((w.drewN q).setCell ⟨rb,2,none⟩ (.int .i64 ((g.steps+1:Nat):Int)))):=fun q=>⟨((h.drew q).set2 hs).1,(Kr.drew rb lb ev w q).trans ((h.drew q).set2 hs).2⟩
 have hd:((g.steps:Int)==(fuel:Int))=false:=by simp;omega
 have hw:IntKind.i64.wrap ((g.steps:Int)+1)=((g.steps+1:Nat):Int):=by rw[IntKind.wrap_i64];omega
 clear hz h
 go_enter Tryz.func91,Tryz.ntmps91
 go_upto_region 0 with fail
 go_quiet (fail)
 go_wp2
 go_end0
 exact⟨rfl,HS.out _⟩
section
open Go.RowKit Go.Maps
def isAsk:Value→Bool
 | .agg a=>match a.toList with
  |[.bool _,.int .i64 _]=>true
  | _=>false
 | _=>false
def askE (v:Value):Option (DataW Value×List MemPlace):=if isAsk v=true then some (.held v,[]) else none
theorem isAsk_of {v:Value}(h:isAsk v=true):∃b n,v=.agg #[.bool b,.int .i64 n]:=by
 unfold isAsk at h
 split at h
 ·split at h
  ·rename_i a _ b n e
   exact⟨b,n,by rw[show a=#[.bool b,.int .i64 n] from Array.ext' e]⟩
  ·cases h
 ·cases h
structure AkV where
 b:Bool
 n:Int
theorem askE_inv {v:Value}{y:DataW Value×List MemPlace}(h:askE v=some y):∃c:AkV,v=.agg #[.bool c.b,.int .i64 c.n]:=by
 unfold askE at h
 split at h
 ·rename_i g
  obtain⟨b,n,e⟩:=isAsk_of g
  exact⟨⟨b,n⟩,e⟩
 ·cases h
theorem lawK:Keyed Tryz.prog 9:=string_keyed Tryz.underlying9
theorem keyS_inv {key:Value}{kl:Lit}(h:keyOf Tryz.prog 9 key=some kl):∃s:ByteArray,key=.string s∧s.size≤maxLen:=by
 cases key<;>simp[keyOf,mapKey,Tryz.underlying9] at h
 rename_i s
 exact⟨s,rfl,h.1⟩
def MapA (w:World)(B N:Nat):Prop:=∃D:DataW Value,w.ownsMap Tryz.prog 9 askE B N D
theorem MapA.made (w:World):MapA (w.alloc (.map #[] 0)) w.heap.size 0:=⟨_,World.ownsMap_made w _ _ _⟩
theorem MapA.mono {w:World}{B N M:Nat}(h:MapA w B N)(hm:N≤M):MapA w B M:=by
 obtain⟨D,es,clock,h1,h2,h3,h4⟩:=h
 exact⟨D,es,clock,h1,h2,Nat.le_trans h3 hm,h4⟩
theorem MapA.keeps {w w':World}{B N:Nat}(h:MapA w B N)(hb:w'.heap[B]? =w.heap[B]?):MapA w' B N:=by
 obtain⟨D,es,clock,h1,h2,h3,h4⟩:=h
 exact⟨D,es,clock,hb.trans h1,h2,h3,h4⟩
theorem MapA.lt {w:World}{B N:Nat}(h:MapA w B N):B<w.heap.size:=by
 obtain⟨D,h1⟩:=h
 exact h1.lt
theorem MapA.put {w:World}{B N:Nat}(h:MapA w B N){s:ByteArray}(hs:s.size≤maxLen)(hN:N<maxLen)(b:Bool)(n:Int):∃w',(Instr.mapUpdate 162 (.map (some B)) (.string s) (.agg #[.bool b,.int .i64 n])).run Tryz.prog w=.ok () w'∧MapA w' B (N+1)∧w.grownBy w' (some B):=by
 obtain⟨D,h1⟩:=h
 obtain⟨w',hr,h3,h4⟩:=h1.update lawK Tryz.underlying162 hN (Go.WideMaps.keyOf_string_mk Tryz.underlying9 hs) (d:=.held (.agg #[.bool b,.int .i64 n])) (ps:=[]) (show askE (.agg #[.bool b,.int .i64 n])=_ from rfl)
 exact⟨w',hr,⟨_,h3⟩,h4⟩
abbrev KE:=(Nat×Nat)×Int
def keV (p:Nat×Nat):Value:=.pointer (some ⟨p.1,p.2,none⟩)
structure KnM (w:World)(B:Nat)(K:List KE):Prop where
 ex:∃es clock,w.heap[B]? =some (.map es clock)∧es.toList.map (fun e=>(e.key,e.val))=K.map (fun p=>(keV p.1,.int .i64 p.2))
 pln:∀p∈K,Pln w p.1.1
theorem KnM.lt {w:World}{B:Nat}{K:List KE}(h:KnM w B K):B<w.heap.size:=by
 obtain⟨es,c,hb,_⟩:=h.ex
 exact lt_of_block hb
theorem KnM.made (w:World):KnM (w.alloc (.map #[] 0)) w.heap.size []:=⟨⟨#[],0,heap_at_alloc _ _ _ rfl,rfl⟩,fun p hp=>by simp at hp⟩
theorem KnM.keeps {w w':World}{B:Nat}{K:List KE}(h:KnM w B K)(hB:w'.heap[B]? =w.heap[B]?)(hK:∀p∈K,w'.heap[p.1.1]? =w.heap[p.1.1]?):KnM w' B K:=by
 obtain⟨⟨es,c,hb,hk⟩,hp⟩:=h
 exact⟨⟨es,c,hB.trans hb,hk⟩,fun p hp'=>(hp p hp').keeps (hK p hp')⟩
theorem eqKE (w:World)(p q:Nat×Nat)(hp:Pln w p.1)(hq:Pln w q.1):(Op.equal 174 (keV p) (keV q)).run Tryz.prog w=.ok (decide (p=q)) w:=by
 have e1:=eqPtr 9999 ⟨p.1,p.2,none⟩ ⟨q.1,q.2,none⟩ w
 show(Op.equalIn (9999+1) _ _ _).run _ _=_
 unfold keV
 rw[e1]
 obtain⟨cs,e,hp⟩:=hp
 obtain⟨cs',e',hq⟩:=hq
 by_cases h:p=q
 ·rw[h]
  rw[run_sameAddr_same];simp
 ·rw[run_sameAddr_other w (fun hh=>h (by simp only[Addr.mk.injEq,and_true] at hh;exact Prod.ext hh.1 hh.2)) hp hq]
  simp[h]
theorem findAskKE (w:World)(p:Nat×Nat)(hp:Pln w p.1):∀(es:List MapEntry) (K:List KE) (i:Nat),es.map (fun e=>(e.key,e.val))=K.map (fun p=>(keV p.1,Value.int .i64 p.2))→(∀q∈K,Pln w q.1.1)→
 ((∀q∈K,q.1≠p)∧(Instr.findAsking 174 (keV p) es i).run Tryz.prog w=.ok none w)∨(∃j e t,es[j]? =some e∧(p,t)∈K∧e.key=keV p∧e.val=.int .i64 t∧(Instr.findAsking 174 (keV p) es i).run Tryz.prog w=.ok (some (i+j,e.val)) w):=by
 intro es
 induction es with
 | nil=>
  intro K i hk _
  have:K=[]:=by simpa using hk.symm
  subst this
  exact .inl ⟨by simp,by simp[Instr.findAsking]⟩
 | cons e es ih=>
  intro K i hk hpl
  cases K with
  | nil=>simp at hk
  | cons q K=>
   simp only[List.map_cons,List.cons.injEq,Prod.mk.injEq] at hk
   have heq:=eqKE w p q.1 hp (hpl q (by simp))
   rw[←hk.1.1] at heq
   by_cases h:p=q.1
   ·subst h
    refine .inr ⟨0,e,q.2,rfl,by simp,hk.1.1,hk.1.2,?_⟩
    simp[Instr.findAsking,heq]
   ·rcases ih K (i+1) hk.2 (fun q hq=>hpl q (by simp[hq])) with⟨h1,h2⟩|⟨j,e',t,h2,h3,h4,h5,h6⟩
    ·refine .inl ⟨fun r hr=> ?_,by simp[Instr.findAsking,heq,h,h2]⟩
     rcases List.mem_cons.1 hr with rfl | hr
     ·exact fun e=>h e.symm
     ·exact h1 r hr
    ·refine .inr ⟨j+1,e',t,by simpa using h2,by simp[h3],h4,h5,?_⟩
     simp[Instr.findAsking,heq,h,h6];omega
theorem findNowKE (k:Value)(p:TypeId):∀(es:List MapEntry) (i:Nat),Instr.findNow (.pointer p) k es i=if es=[] then some none else none:=by
 intro es i
 cases es with
 | nil=>rfl
 | cons e es=>cases k<;>rfl
theorem findKE (w:World)(p:Nat×Nat)(hp:Pln w p.1)(es:List MapEntry)(K:List KE)(hk:es.map (fun e=>(e.key,e.val))=K.map (fun p=>(keV p.1,Value.int .i64 p.2)))(hpl:∀q∈K,Pln w q.1.1):
 ((∀q∈K,q.1≠p)∧(Instr.findKey 174 (keV p) es).run Tryz.prog w=.ok none w)∨(∃j e t,es[j]? =some e∧(p,t)∈K∧e.key=keV p∧e.val=.int .i64 t∧(Instr.findKey 174 (keV p) es).run Tryz.prog w=.ok (some (j,e.val)) w):=by
 have h:=findAskKE w p hp es K 0 hk hpl
 have e:(Instr.findKey 174 (keV p) es).run Tryz.prog w=(Instr.findAsking 174 (keV p) es).run Tryz.prog w:=by
  simp only[Instr.findKey,Sem.run_bind,run_underlying Tryz.underlying174,Result.andThen_ok,findNowKE]
  cases es with
  | nil=>simp[Instr.findAsking]
  | cons a es=>simp
 rw[e]
 simpa using h
theorem checkKE (em:Bool)(p:Nat×Nat)(w:World):(Instr.checkKey em 10000 174 (keV p)).run Tryz.prog w=.ok () w:=by unfold keV;kernel_rfl
theorem zeroI (w:World):(zeroValue 3).run Tryz.prog w=.ok (.int .i64 0) w:=by kernel_rfl
theorem KnM.asks {w:World}{B:Nat}{K:List KE}(h:KnM w B K)(p:Nat×Nat)(hp:Pln w p.1):
 ((∀q∈K,q.1≠p)∧(Instr.lookup 160 (.map (some B)) (keV p) true).run Tryz.prog w=.ok (.tuple #[.int .i64 0,.bool false]) w)∨(∃t,(p,t)∈K∧(Instr.lookup 160 (.map (some B)) (keV p) true).run Tryz.prog w=.ok (.tuple #[.int .i64 t,.bool true]) w):=by
 obtain⟨es,clock,hb,hk⟩:=h.ex
 have hc:=checkKE es.isEmpty p w
 have hz:=zeroI w
 rcases findKE w p hp es.toList K hk h.pln with⟨h1,h2⟩|⟨j,e,t,h2,h3,h4,h5,h6⟩
 ·refine .inl ⟨h1,?_⟩
  simp only[Instr.lookup,Sem.run_bind,run_underlying Tryz.underlying160,Result.andThen_ok,MapKept.run_getObj_map hb,Sem.run_pure,hc,h2,hz]
  rfl
 ·refine .inr ⟨t,h3,?_⟩
  simp only[Instr.lookup,Sem.run_bind,run_underlying Tryz.underlying160,Result.andThen_ok,MapKept.run_getObj_map hb,Sem.run_pure,hc,h6,h5]
  rfl
theorem KnM.put {w:World}{B:Nat}{K:List KE}(h:KnM w B K)(p:Nat×Nat)(hp:Pln w p.1)(t:Int):∃w' K',(Instr.mapUpdate 160 (.map (some B)) (keV p) (.int .i64 t)).run Tryz.prog w=.ok () w'∧KnM w' B K'∧(∀q∈K',q∈K∨q=(p,t))∧w.grownBy w' (some B):=by
 obtain⟨es,clock,hb,hk⟩:=h.ex
 have hc:=checkKE false p w
 have hlt:=lt_of_block hb
 have pl:∀(o:Obj) (q:Nat),Pln w q→Pln {w with heap:=w.heap.setIfInBounds B o} q:=by
  intro o q hq
  have hne:B≠q:=by
   rintro rfl
   obtain⟨cs,e,hq⟩:=hq
   rw[hb] at hq;cases hq
  refine hq.keeps ?_
  simp[hne]
 rcases findKE w p hp es.toList K hk h.pln with⟨h1,h2⟩|⟨j,e,t0,h2,h3,h4,h5,h6⟩
 ·refine⟨{w with heap:=w.heap.setIfInBounds B (.map (es.push {key:=keV p,val:=.int .i64 t,born:=clock}) (clock+1))},K++[(p,t)],?_,⟨⟨es.push {key:=keV p,val:=.int .i64 t,born:=clock},clock+1,?_,?_⟩,?_⟩,?_,grown_obj _⟩
  ·simp only[Instr.mapUpdate,Sem.run_bind,run_underlying Tryz.underlying160,Result.andThen_ok,MapKept.run_getObj_map hb,hc,h2,MapKept.run_setObj_map _ hb]
  ·simp[hlt]
  ·simp at hk⊢
   exact hk
  ·intro q hq
   rcases List.mem_append.1 hq with hq | hq
   ·exact pl _ _ (h.pln q hq)
   ·rw[List.mem_singleton.1 hq];exact pl _ _ hp
  ·intro q hq
   rcases List.mem_append.1 hq with hq | hq
   ·exact .inl hq
   ·exact .inr (List.mem_singleton.1 hq)
 ·have hj:es[j]? =some e:=by simpa using h2
  have hsb:Instr.sameBits 10000 (keV p) (keV p)=true:=by unfold keV;simp[Instr.sameBits]
  refine⟨{w with heap:=w.heap.setIfInBounds B (.map (es.modify j fun e=>{e with key:=keV p,val:=.int .i64 t}) clock)},K.set j (p,t),?_,⟨⟨es.modify j fun e=>{e with key:=keV p,val:=.int .i64 t},clock,?_,?_⟩,?_⟩,?_,grown_obj _⟩
  ·simp only[Instr.mapUpdate,Sem.run_bind,run_underlying Tryz.underlying160,Result.andThen_ok,MapKept.run_getObj_map hb,hc,h6,hj,Option.map_some,Option.getD_some,h4,Instr.keyThatStays,hsb,if_true,Sem.run_pure,MapKept.run_setObj_map _ hb]
  ·simp[hlt]
  ·refine List.ext_getElem? fun i=> ?_
   have hki:=congrArg (fun l=>l[i]?) hk
   simp only[List.getElem?_map,Array.getElem?_toList] at hki
   simp only[List.getElem?_map,Array.getElem?_toList,Array.getElem?_modify,List.getElem?_set]
   by_cases hi:j=i
   ·subst hi
    rw[hj] at hki
    have hl:j<K.length:=by
     rcases Nat.lt_or_ge j K.length with h | h
     ·exact h
     ·rw[List.getElem?_eq_none h] at hki;cases hki
    simp[hj,hl]
   ·simp[hi]
    simpa using hki
  ·intro q hq
   rcases List.mem_or_eq_of_mem_set hq with hq | rfl
   ·exact pl _ _ (h.pln q hq)
   ·exact pl _ _ hp
  ·intro q hq
   exact List.mem_or_eq_of_mem_set hq
end
namespace Sk
open Par (Tr Stm Prm Chn Prc Prg Po ba)
abbrev Vs:=List (ByteArray×Int)
def lastV:Vs→ByteArray→Option Int
 |[],_=>none
 | x::l,s=>match lastV l s with
  | some t=>some t
  | none=>if x.1=s then some x.2 else none
theorem lastV_hit {l:Vs}{s:ByteArray}{i:Nat}(hi:i<l.length)(hs:l[i].1=s)(h:∀j (hj:j<l.length),i<j→l[j].1≠s):lastV l s=some l[i].2:=by
 induction l generalizing i with
 | nil=>simp at hi
 | cons x l ih=>
  rw[lastV]
  cases i with
  | zero=>
   have hn:∀(m:Vs),(∀j (hj:j<m.length),m[j].1≠s)→lastV m s=none:=by
    intro m hm
    induction m with
    | nil=>rfl
    | cons y m ih2=>
     rw[lastV,ih2 fun j hj=>hm (j+1) (by simp;omega)]
     exact if_neg (hm 0 (by simp))
   rw[hn l fun j hj=>h (j+1) (by simp;omega) (by omega)]
   exact if_pos hs
  | succ i=>
   rw[ih (i:=i) (by simpa using hi) hs fun j hj hij=>h (j+1) (by simp;omega) (by omega)]
   rfl
theorem lastV_miss {l:Vs}{s:ByteArray}(h:∀j (hj:j<l.length),l[j].1≠s):lastV l s=none:=by
 induction l with
 | nil=>rfl
 | cons y m ih2=>
  rw[lastV,ih2 fun j hj=>h (j+1) (by simp;omega)]
  exact if_neg (h 0 (by simp))
def isCmp (s:List UInt8):Bool:=decide (s=[60]∨s=[60,61]∨s=[62]∨s=[62,61])
def isOut (s:List UInt8):Bool:=decide (s=[61,61]∨s=[33,61]∨s=[33]∨s=[38,38]∨s=[124,124])
def allT (T:Tr→Option Int):List Tr→List Int→Bool
 |[],[]=>true
 | x::l,t::m=>decide (T x=some t) && allT T l m
 | _,_=>false
def typF (P:Prg)(vs:Vs)(T:Tr→Option Int)(x:Tr):Option Int:=match x with
 | .mk k _ _ t s _ a=>
  if k=1 then some t
  else if k=2 then lastV vs s
  else if k=3 then if isOut s.data.toList=false∧a.length≤8∧allT T a (a.map fun _=>1)=true then some (if isCmp s.data.toList=true then 2 else 1) else none
  else if k=4 then(Rr.findP P.procs s).bind fun q=>if a.length≤8∧a.length=q.params.length∧allT T a (q.params.map (·.type))=true∧q.result.type≠0 then some q.result.type else none
  else none
def typ (P:Prg)(vs:Vs):Nat→Tr→Option Int
 | 0=>fun _=>none
 | m+1=>typF P vs (typ P vs m)
theorem allT_mono {T T':Tr→Option Int}(h:∀x t,T x=some t→T' x=some t){l:List Tr}{m:List Int}(g:allT T l m=true):allT T' l m=true:=by
 induction l generalizing m with
 | nil=>cases m with
  | nil=>rfl
  | cons t m=>cases g
 | cons x l ih=>cases m with
  | nil=>cases g
  | cons t m=>
   rw[allT,Bool.and_eq_true,decide_eq_true_eq] at g⊢
   exact⟨h _ _ g.1,ih g.2⟩
theorem typF_mono {P:Prg}{vs:Vs}{T T':Tr→Option Int}(h:∀x t,T x=some t→T' x=some t){x:Tr}{t:Int}(g:typF P vs T x=some t):typF P vs T' x=some t:=by
 obtain⟨k,p,c,ty,s,l,a⟩:=x
 unfold typF at g⊢
 dsimp only at g⊢
 split at g
 ·rename_i h1;rw[if_pos h1];exact g
 rename_i h1
 rw[if_neg h1]
 split at g
 ·rename_i h2;rw[if_pos h2];exact g
 rename_i h2
 rw[if_neg h2]
 split at g
 ·rename_i h3
  rw[if_pos h3]
  split at g
  ·rename_i h4
   rw[if_pos ⟨h4.1,h4.2.1,allT_mono h h4.2.2⟩]
   exact g
  ·cases g
 rename_i h3
 rw[if_neg h3]
 split at g
 ·rename_i h4
  rw[if_pos h4]
  obtain⟨q,hq,g⟩:=Option.bind_eq_some_iff.1 g
  rw[hq]
  show(if _ then _ else _)=_
  split at g
  ·rename_i h5
   rw[if_pos ⟨h5.1,h5.2.1,allT_mono h h5.2.2.1,h5.2.2.2⟩]
   exact g
  ·cases g
 ·cases g
theorem typ_step {P:Prg}{vs:Vs}{m:Nat}:∀{x:Tr} {t:Int},typ P vs m x=some t→typ P vs (m+1) x=some t:=by
 induction m with
 | zero=>intro x t h;cases h
 | succ m ih=>intro x t h;exact typF_mono (fun x t=>ih) h
theorem typ_le {P:Prg}{vs:Vs}{m n:Nat}(h:m≤n){x:Tr}{t:Int}(g:typ P vs m x=some t):typ P vs n x=some t:=by
 induction h with
 | refl=>exact g
 | step _ ih=>exact typ_step ih
theorem typ_one {P:Prg}{vs:Vs}{m n:Nat}{x:Tr}{t u:Int}(h:typ P vs m x=some t)(g:typ P vs n x=some u):t=u:=by
 have h1:=typ_le (Nat.le_max_left m n) h
 have h2:=typ_le (Nat.le_max_right m n) g
 rw[h1] at h2
 exact Option.some.inj h2
def kst:Nat→Nat
 | 0=>0
 | m+1=>1+8*kst m
def findCh:List Chn→ByteArray→Bool→Option Int
 |[],_,_=>none
 | c::l,s,b=>if c.name=s∧c.inw=b then some c.type else findCh l s b
def stmF (P:Prg)(chk:List Po→Int)(m:Nat)(W:Vs→Bool→List Stm→Option Bool)(back:Int)(vs:Vs)(u:Bool)(s:Stm):Option (Vs×Bool):=match s with
 | .mk k _ s o _ l e a b=>
  if k=1 then(typ P vs m e).bind fun t=>if chk l=0∧lastV vs s=none∧vs.length<900 then some (vs++[(s,t)],u) else none
  else if k=2 then if(lastV vs s).isSome=true∧typ P vs m e=lastV vs s then some (vs,u) else none
  else if k=4 then if typ P vs m e=some 2 then(W vs u a).bind fun u1=>(W vs u1 b).map fun u2=>(vs,u2) else none
  else if k=5 then if(findCh P.chans s false).isSome=true∧typ P vs m e=findCh P.chans s false then some (vs,u) else none
  else if k=6 then if(lastV vs s).isSome=true∧findCh P.chans o true=lastV vs s then some (vs,u) else none
  else if k=8 then if back≠0∧typ P vs m e=some back then some (vs,u) else none
  else none
def seqT (F:Int→Vs→Bool→Stm→Option (Vs×Bool))(bk:Nat→Int):Nat→Vs→Bool→List Stm→Option (Vs×Bool)
 | _,vs,u,[]=>some (vs,u)
 | i,vs,u,s::l=>(F (bk i) vs u s).bind fun r=>seqT F bk (i+1) r.1 r.2 l
def wit (P:Prg)(chk:List Po→Int)(m:Nat):Nat→Vs→Bool→List Stm→Option Bool
 | 0=>fun _ _ _=>none
 | n+1=>fun vs u l=>if l.length=0 then some u else if u=true then none else if l.length≤8 then(seqT (stmF P chk m (wit P chk m n)) (fun _=>0) 0 vs true l).map fun _=>true else none
def sst (m:Nat):Nat→Nat
 | 0=>3+kst m
 | n+1=>3+kst m+40*sst m n
def bodyF (P:Prg)(chk:List Po→Int)(m n:Nat)(u:Bool)(q:Prc):Option Bool:=
 if q.body.length≤8∧(q.result.type=0∨(q.body.getLast?.map fun s=>match s with | .mk k _ _ _ _ _ _ _ _=>k)=some 8) then(seqT (stmF P chk m (wit P chk m n)) (fun i=>if i+1=q.body.length then q.result.type else 0) 0 (q.params.map fun p=>(p.name,p.type)) u q.body).map (·.2) else none
end Sk
abbrev varC (s:ByteArray)(nb:Nat):List Value:=[.string s,.func (.func 54) #[] #[.pointer (some ⟨nb,0,none⟩)],.func (.func 55) #[] #[.pointer (some ⟨nb,0,none⟩)]]
theorem getC {w:World}{nb:Nat}{n:Int}(h:w.heap[nb]? =some (.cells #[.int .i64 n] 3 (0,0))):Calls Tryz.prog 54 #[.pointer (some ⟨nb,0,none⟩)] w fun x w'=>x=.returned (.int .i64 n)∧w'=w:=by
 have c:=cl h 0 rfl
 have hl:=lt_of_block h
 go_enter Tryz.func54,Tryz.ntmps54
 go_wp2
 go_ret
 exact⟨rfl,rfl⟩
theorem putV {w:World}{nb:Nat}{n:Int}(m:Int)(h:w.heap[nb]? =some (.cells #[.int .i64 n] 3 (0,0))):Calls Tryz.prog 55 #[.int .i64 m,.pointer (some ⟨nb,0,none⟩)] w fun x w'=>x=.returned (.tuple #[])∧w'=w.setCell ⟨nb,0,none⟩ (.int .i64 m):=by
 have c:=cl h 0 rfl
 have z:=fz h 0
 have hl:=lt_of_block h
 go_enter Tryz.func55,Tryz.ntmps55
 go_wp2
 go_end0
 exact⟨rfl,rfl⟩
theorem newVarC (s:ByteArray)(n:Int)(w:World):Calls Tryz.prog 30 #[.string s,.int .i64 n] w fun x w'=>x=.returned (.agg ⟨varC s w.heap.size⟩)∧Below w.heap.size w w'∧w'.heap[w.heap.size]? =some (.cells #[.int .i64 n] 3 (0,0)):=by
 have hmf:=mkF
 go_enter Tryz.func30,Tryz.ntmps30
 go_wp2
 obtain⟨w2,hw2⟩:∃w2,w2=(w.alloc (.cells #[.int .i64 n] 3)).alloc (.cells ⟨varC s w.heap.size⟩ 92):=⟨_,rfl⟩
 have hb:=ac hw2
 have r0:=cl hb 0 rfl
 have r1:=cl hb 1 rfl
 have r2:=cl hb 2 rfl
 show bodyPost _ _ _ _ _ ((w.alloc (.cells #[.int .i64 n] 3)).alloc (.cells ⟨varC s w.heap.size⟩ 92))
 rw[←hw2]
 exact bodyPost_ret (v:=.agg ⟨varC s w.heap.size⟩) (by simp[results,Tryz.results30,go_sem,r0,r1,r2]) rfl ⟨rfl,al2 hw2,ab hw2⟩
theorem tstV {w:World}{bb:Nat}{s nm:ByteArray}{x1 x2:Value}(h:w.heap[bb]? =some (.cells #[.string nm] 9 (0,0))):Calls Tryz.prog 131 #[.agg #[.string s,x1,x2],.pointer (some ⟨bb,0,none⟩)] w fun x w'=>x=.returned (.bool (decide (s=nm)))∧Below w.heap.size w w':=by
 have e0:w.cell? ⟨bb,0,none⟩=some (.string nm):=cl h 0 rfl
 have hl:=lt_of_block h
 have hq:=beq_dec s nm
 clear h
 go_enter Tryz.func131,Tryz.ntmps131
 go_wp2
 go_ret
 exact⟨by simp,(Below.refl _ _).alloc (Nat.le_refl _) _⟩
theorem tstQ {w:World}{bb:Nat}{s nm:ByteArray}{x0 x2 x3 x4 x5 x6 x7 x8:Value}(h:w.heap[bb]? =some (.cells #[.string nm] 9 (0,0))):Calls Tryz.prog 33 #[.agg #[x0,.string s,x2,x3,x4,x5,x6,x7,x8],.pointer (some ⟨bb,0,none⟩)] w fun x w'=>x=.returned (.bool (decide (s=nm)))∧Below w.heap.size w w':=by
 have e0:w.cell? ⟨bb,0,none⟩=some (.string nm):=cl h 0 rfl
 have hl:=lt_of_block h
 have hq:=beq_dec s nm
 clear h
 go_enter Tryz.func33,Tryz.ntmps33
 go_wp2
 go_ret
 exact⟨by simp,(Below.refl _ _).alloc (Nat.le_refl _) _⟩
theorem tstC {w:World}{bb:Nat}{s nm:ByteArray}{x0 x2 x3 x4:Value}(h:w.heap[bb]? =some (.cells #[.string nm] 9 (0,0))):Calls Tryz.prog 134 #[.agg #[x0,.string s,x2,x3,x4],.pointer (some ⟨bb,0,none⟩)] w fun x w'=>x=.returned (.bool (decide (s=nm)))∧Below w.heap.size w w':=by
 have e0:w.cell? ⟨bb,0,none⟩=some (.string nm):=cl h 0 rfl
 have hl:=lt_of_block h
 have hq:=beq_dec s nm
 clear h
 go_enter Tryz.func134,Tryz.ntmps134
 go_wp2
 go_ret
 exact⟨by simp,(Below.refl _ _).alloc (Nat.le_refl _) _⟩
end Go.Proofs.YtepkhlpjgnckkaaGreatDoor
