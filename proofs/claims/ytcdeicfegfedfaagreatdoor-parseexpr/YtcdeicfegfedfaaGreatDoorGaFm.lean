/- Maps whose keys are places: where a list lies, how many it is, how deep. Contracts of tree.placeOf, tree.met at expressions, tree.newLooker. What tree.Formed answers: formed, in plain words. Contract of tree.Formed. -/
import Derived.Test.YtcdeicfegfedfaaGreatDoorChecked
import Derived.Test.YtcdeicfegfedfaaGreatDoorGaRow
import Derived.LaidEql
import Derived.Laws.StructEq
import Derived.MapKept
import Derived.WideKeyRuns
import Derived.WalkKit
import Derived.ProofKit
import Derived.Test.YtcdeicfegfedfaaGreatDoorFmB
import Derived.Carry
import Derived.Deep.RegionHeld3
namespace Go.Proofs.YtcdeicfegfedfaaGreatDoor
open Go.RowKit

/- A block, an offset, how many, how deep. -/
abbrev PK := Nat × Nat × Nat × Nat
def pkV (p : PK) : Value := .agg #[.pointer (some ⟨p.1, p.2.1, none⟩), .int .i64 (p.2.2.1 : Int), .int .i64 (p.2.2.2 : Int)]
def Pln (w : World) (b : Nat) : Prop := ∃ cs e, w.heap[b]? = some (.cells cs e (0, 0))
theorem pkV_inj {p q : PK} (h : pkV p = pkV q) : p = q := by
  obtain ⟨a, b, c, d⟩ := p
  obtain ⟨a', b', c', d'⟩ := q
  simp [pkV] at h
  obtain ⟨⟨h1, h2⟩, h3, h4⟩ := h
  simp [h1, h2]; omega
theorem ptrSize : (Tryz.prog.info? 26).map (·.size) = some 7 := by kernel_rfl
theorem plFields : (Tryz.prog.fieldsOf 127).toList.map (fun f => (f.name, f.type, f.offset)) = [("first", 74, 0), ("n", 3, 1), ("deep", 3, 2)] := by kernel_rfl
theorem plWide : (match Tryz.prog.underlying 127 with | some (.array _ _) | some (.struct _) => true | _ => false) = true := by kernel_rfl
theorem plStruct : Tryz.prog.underlying 127 = some (.struct (Tryz.prog.fieldsOf 127)) := by kernel_rfl
theorem plHeld : Tryz.prog.stoodInHeld 127 = false := by kernel_rfl
theorem plCheck (em : Bool) (p : PK) (w : World) : (Instr.checkKey em 10000 127 (pkV p)).run Tryz.prog w = .ok () w := by unfold pkV; kernel_rfl
theorem part0 (x y z : Value) (w : World) : (part 74 #[x, y, z] 0).run Tryz.prog w = .ok x w := by kernel_rfl
theorem part1 (x y z : Value) (w : World) : (part 3 #[x, y, z] 1).run Tryz.prog w = .ok y w := by kernel_rfl
theorem part2 (x y z : Value) (w : World) : (part 3 #[x, y, z] 2).run Tryz.prog w = .ok z w := by kernel_rfl
theorem eqPtr (d : Nat) (a b : Addr) (w : World) : (Op.equalIn (d + 1) 74 (.pointer (some a)) (.pointer (some b))).run Tryz.prog w = (sameAddr a b).run Tryz.prog w := by
  have hs := ptrSize
  cases hi : Tryz.prog.info? 26 with
  | none => rw [hi] at hs; simp at hs
  | some i =>
    rw [hi] at hs
    have hz : i.size = 7 := by simpa using hs
    simp [Op.equalIn, run_underlying Tryz.underlying74, sizeOf, typeInfo, hi, hz]
set_option maxRecDepth 10000 in
theorem eqPK (w : World) (p q : PK) (hp : Pln w p.1) (hq : Pln w q.1) : (Op.equal 127 (pkV p) (pkV q)).run Tryz.prog w = .ok (decide (p = q)) w := by
  obtain ⟨cs, e, hp⟩ := hp
  obtain ⟨cs', e', hq⟩ := hq
  have key : (sameAddr ⟨p.1, p.2.1, none⟩ ⟨q.1, q.2.1, none⟩).run Tryz.prog w = .ok (decide ((p.1, p.2.1) = (q.1, q.2.1))) w := by
    by_cases h : (p.1, p.2.1) = (q.1, q.2.1)
    · simp only [Prod.mk.injEq] at h
      rw [h.1, h.2]
      rw [run_sameAddr_same]; simp
    · rw [run_sameAddr_other w (fun hh => h (by simp only [Addr.mk.injEq, and_true] at hh; rw [hh.1, hh.2])) hp hq]
      simp [h]
  obtain ⟨a, b, c, d⟩ := p
  obtain ⟨a', b', c', d'⟩ := q
  have hf := plFields
  unfold pkV
  show (Op.equalIn (9999 + 1) _ _ _).run _ _ = _
  rw [run_equalIn_struct w 9999 _ _ _ plStruct plHeld]
  match hm : (Tryz.prog.fieldsOf 127).toList with
  | [] => rw [hm] at hf; simp at hf
  | [_] => rw [hm] at hf; simp at hf
  | [_, _] => rw [hm] at hf; simp at hf
  | f0 :: f1 :: f2 :: f3 :: _ => rw [hm] at hf; simp at hf
  | [f0, f1, f2] =>
    rw [hm] at hf
    simp only [List.map_cons, List.map_nil, List.cons.injEq, Prod.mk.injEq, and_true] at hf
    obtain ⟨⟨n0, t0, o0⟩, ⟨n1, t1, o1⟩, n2, t2, o2⟩ := hf
    have ep := eqPtr 9998 ⟨a, b, none⟩ ⟨a', b', none⟩ w
    have i1 := run_equalIn_int (P := Tryz.prog) w 9998 3 .i64 .i64 (c : Int) (c' : Int) Tryz.underlying3
    have i2 := run_equalIn_int (P := Tryz.prog) w 9998 3 .i64 .i64 (d : Int) (d' : Int) Tryz.underlying3
    simp only [Op.eqFields, n0, n1, n2, t0, t1, t2, o0, o1, o2, ne_eq, String.reduceEq, not_false_eq_true, if_true, Sem.run_bind, part0, part1, part2, Result.andThen_ok, ep, key, i1, i2, Sem.run_ite, Sem.run_pure]
    by_cases h1 : (a, b) = (a', b')
    · simp only [Prod.mk.injEq] at h1
      obtain ⟨rfl, rfl⟩ := h1
      by_cases h2 : c = c'
      · subst h2
        by_cases h3 : d = d'
        · subst h3; simp
        · have : ¬ ((d : Int) = d') := by omega
          simp [h3, this]
      · have : ¬ ((c : Int) = c') := by omega
        simp [h2, this]
    · have h1' : ¬ (a = a' ∧ b = b') := by simpa using h1
      have : ¬ ((a, b, c, d) = (a', b', c', d')) := by
        intro e; simp only [Prod.mk.injEq] at e; exact h1' ⟨e.1, e.2.1⟩
      simp [h1', this]
theorem find_run (w : World) (p : PK) (hp : Pln w p.1) : ∀ (es : List MapEntry) (K : List PK) (i : Nat), es.map (·.key) = K.map pkV → (∀ q ∈ K, Pln w q.1) →
    (p ∉ K ∧ (Instr.findAsking 127 (pkV p) es i).run Tryz.prog w = .ok none w) ∨ (p ∈ K ∧ ∃ j e, es[j]? = some e ∧ e.key = pkV p ∧ (Instr.findAsking 127 (pkV p) es i).run Tryz.prog w = .ok (some (i + j, e.val)) w) := by
  intro es
  induction es with
  | nil =>
    intro K i hk _
    have : K = [] := by simpa using hk.symm
    subst this
    exact .inl ⟨by simp, by simp [Instr.findAsking]⟩
  | cons e es ih =>
    intro K i hk hpl
    cases K with
    | nil => simp at hk
    | cons q K =>
      simp only [List.map_cons, List.cons.injEq] at hk
      have heq := eqPK w p q hp (hpl q (by simp))
      rw [← hk.1] at heq
      by_cases h : p = q
      · subst h
        refine .inr ⟨by simp, 0, e, rfl, hk.1, ?_⟩
        simp [Instr.findAsking, heq]
      · rcases ih K (i + 1) hk.2 (fun q hq => hpl q (by simp [hq])) with ⟨h1, h2⟩ | ⟨h1, j, e', h2, h3, h4⟩
        · exact .inl ⟨by simp [h, h1], by simp [Instr.findAsking, heq, h, h2]⟩
        · refine .inr ⟨by simp [h1], j + 1, e', by simpa using h2, h3, ?_⟩
          simp [Instr.findAsking, heq, h, h4]; omega
/- Block B is a map that has just the places of K; with what they hold. -/
structure MapPl (w : World) (B : Nat) (L : List (PK × Value)) : Prop where
  ex : ∃ es clock, w.heap[B]? = some (.map es clock) ∧ es.toList.map (fun e => (e.key, e.val)) = L.map (fun p => (pkV p.1, p.2))
  pln : ∀ p ∈ L, Pln w p.1.1
theorem MapPl.lt {w : World} {B : Nat} {L : List (PK × Value)} (h : MapPl w B L) : B < w.heap.size := by
  obtain ⟨es, c, hb, _⟩ := h.ex
  exact lt_of_block hb
theorem Pln.keeps {w w' : World} {b : Nat} (h : Pln w b) (hb : w'.heap[b]? = w.heap[b]?) : Pln w' b := by
  obtain ⟨cs, e, h⟩ := h
  exact ⟨cs, e, hb.trans h⟩
theorem MapPl.made (w : World) : MapPl (w.alloc (.map #[] 0)) w.heap.size [] := ⟨⟨#[], 0, heap_at_alloc _ _ _ rfl, rfl⟩, fun p hp => by simp at hp⟩
def hasP (L : List (PK × Value)) (p : PK) : Bool := L.any fun q => decide (q.1 = p)
def valP (L : List (PK × Value)) (p : PK) (z : Value) : Value := ((L.find? fun q => decide (q.1 = p)).map (·.2)).getD z
theorem keys_of {es : Array MapEntry} {L : List (PK × Value)} (h : es.toList.map (fun e => (e.key, e.val)) = L.map (fun p => (pkV p.1, p.2))) : es.toList.map (·.key) = (L.map (·.1)).map pkV := by
  have := congrArg (List.map Prod.fst) h
  simpa [List.map_map, Function.comp_def] using this
set_option maxRecDepth 100000 in
theorem MapPl.find {w : World} {B : Nat} {L : List (PK × Value)} (h : MapPl w B L) {es : Array MapEntry} {clock : Nat} (hb : w.heap[B]? = some (.map es clock)) (p : PK) (hp : Pln w p.1) :
    (p ∉ L.map (·.1) ∧ (Instr.findKey 127 (pkV p) es.toList).run Tryz.prog w = .ok none w) ∨ (p ∈ L.map (·.1) ∧ ∃ j e, es.toList[j]? = some e ∧ e.key = pkV p ∧ (Instr.findKey 127 (pkV p) es.toList).run Tryz.prog w = .ok (some (j, e.val)) w) := by
  obtain ⟨es', clock', hb', hk⟩ := h.ex
  rw [hb] at hb'
  simp only [Option.some.injEq, Obj.map.injEq] at hb'
  obtain ⟨rfl, rfl⟩ := hb'
  rw [run_findKey_eq w plWide]
  have := find_run w p hp es.toList (L.map (·.1)) 0 (keys_of hk) (fun q hq => by obtain ⟨x, hx, rfl⟩ := List.mem_map.1 hq; exact h.pln x hx)
  simpa using this
/- A set of places. -/
def SetP (w : World) (B : Nat) (K : List PK) : Prop := MapPl w B (K.map fun p => (p, .agg #[]))
theorem setKeys (K : List PK) : (K.map fun p => (p, Value.agg #[])).map (·.1) = K := by simp [List.map_map, Function.comp_def]
theorem SetP.made (w : World) : SetP (w.alloc (.map #[] 0)) w.heap.size [] := MapPl.made w
theorem SetP.keeps {w w' : World} {B : Nat} {K : List PK} (h : SetP w B K) (hB : w'.heap[B]? = w.heap[B]?) (hK : ∀ p ∈ K, w'.heap[p.1]? = w.heap[p.1]?) : SetP w' B K := by
  obtain ⟨⟨es, c, hb, hk⟩, hp⟩ := h
  refine ⟨⟨es, c, hB.trans hb, hk⟩, fun p hp' => ?_⟩
  obtain ⟨q, hq, rfl⟩ := List.mem_map.1 hp'
  exact (hp _ hp').keeps (hK q hq)
theorem SetP.pl {w : World} {B : Nat} {K : List PK} (h : SetP w B K) {p : PK} (hp : p ∈ K) : Pln w p.1 := h.pln (p, .agg #[]) (List.mem_map.2 ⟨p, hp, rfl⟩)
theorem zeroUn (w : World) : (zeroValue 129).run Tryz.prog w = .ok (.agg #[]) w := by kernel_rfl
theorem SetP.val {es : Array MapEntry} {K : List PK} (h : es.toList.map (fun e => (e.key, e.val)) = (K.map fun p => (p, Value.agg #[])).map (fun p => (pkV p.1, p.2))) {e : MapEntry} (he : e ∈ es.toList) : e.val = .agg #[] := by
  have : (e.key, e.val) ∈ es.toList.map (fun e => (e.key, e.val)) := List.mem_map.2 ⟨e, he, rfl⟩
  rw [h] at this
  obtain ⟨q, hq, e1⟩ := List.mem_map.1 this
  obtain ⟨r, hr, rfl⟩ := List.mem_map.1 hq
  simp only [Prod.mk.injEq] at e1
  exact e1.2.symm
theorem SetP.asks {w : World} {B : Nat} {K : List PK} (h : SetP w B K) (p : PK) (hp : Pln w p.1) : (Instr.lookup 68 (.map (some B)) (pkV p) true).run Tryz.prog w = .ok (.tuple #[.agg #[], .bool (decide (p ∈ K))]) w := by
  obtain ⟨es, clock, hb, hk⟩ := h.ex
  have hf := h.find hb p hp
  rw [setKeys] at hf
  have hz := zeroUn w
  have hc := plCheck es.isEmpty p w
  simp only [Instr.lookup, Sem.run_bind, run_underlying Tryz.underlying68, Result.andThen_ok, MapKept.run_getObj_map hb, Sem.run_pure, hc]
  rcases hf with ⟨h1, h2⟩ | ⟨h1, j, e, h2, h3, h4⟩
  · simp [h2, h1, hz]
  · have := SetP.val hk (List.mem_of_getElem? h2)
    simp [h4, h1, this]
theorem sameBits_pk (p : PK) : Instr.sameBits 10000 (pkV p) (pkV p) = true := by
  unfold pkV
  simp [Instr.sameBits]
def addP (K : List PK) (p : PK) : List PK := if p ∈ K then K else K ++ [p]
theorem mem_addP {K : List PK} {p q : PK} : q ∈ addP K p ↔ q ∈ K ∨ q = p := by
  unfold addP
  split
  · rename_i h
    constructor
    · exact .inl
    · rintro (h' | rfl)
      · exact h'
      · exact h
  · simp
theorem grown_obj {w : World} {B : Nat} (o : Obj) : w.grownBy { w with heap := w.heap.setIfInBounds B o } (some B) :=
  ⟨rfl, rfl, rfl, by simp, fun b hb hn => by
    have : B ≠ b := fun e => hn (by rw [e])
    simp [this]⟩
theorem SetP.put {w : World} {B : Nat} {K : List PK} (h : SetP w B K) (p : PK) (hp : Pln w p.1) : ∃ w', (Instr.mapUpdate 68 (.map (some B)) (pkV p) (.agg #[])).run Tryz.prog w = .ok () w' ∧ SetP w' B (addP K p) ∧ w.grownBy w' (some B) := by
  obtain ⟨es, clock, hb, hk⟩ := h.ex
  have hf := h.find hb p hp
  rw [setKeys] at hf
  have hc := plCheck false p w
  have hlt := lt_of_block hb
  have hn : ∀ q : PK, Pln w q.1 → B ≠ q.1 := by
    rintro q ⟨cs, e, hq⟩ rfl
    rw [hb] at hq; cases hq
  have pl : ∀ (o : Obj) (q : PK), Pln w q.1 → Pln { w with heap := w.heap.setIfInBounds B o } q.1 := by
    intro o q hq
    have hne := hn q hq
    refine hq.keeps ?_
    simp [hne]
  rcases hf with ⟨h1, h2⟩ | ⟨h1, j, e, h2, h3, h4⟩
  · refine ⟨{ w with heap := w.heap.setIfInBounds B (.map (es.push { key := pkV p, val := .agg #[], born := clock }) (clock + 1)) }, ?_, ⟨⟨es.push { key := pkV p, val := .agg #[], born := clock }, clock + 1, ?_, ?_⟩, ?_⟩, grown_obj _⟩
    · simp only [Instr.mapUpdate, Sem.run_bind, run_underlying Tryz.underlying68, Result.andThen_ok, MapKept.run_getObj_map hb, hc, h2, MapKept.run_setObj_map _ hb]
    · simp [hlt]
    · simp [addP, h1] at hk ⊢
      exact hk
    · intro q hq
      obtain ⟨r, hr, rfl⟩ := List.mem_map.1 hq
      rcases mem_addP.1 hr with hr | rfl
      · exact pl _ _ (h.pl hr)
      · exact pl _ _ hp
  · have hv := SetP.val hk (List.mem_of_getElem? h2)
    have hj : es[j]? = some e := by simpa using h2
    refine ⟨{ w with heap := w.heap.setIfInBounds B (.map (es.modify j fun e => { e with key := pkV p, val := .agg #[] }) clock) }, ?_, ⟨⟨es.modify j fun e => { e with key := pkV p, val := .agg #[] }, clock, ?_, ?_⟩, ?_⟩, grown_obj _⟩
    · simp only [Instr.mapUpdate, Sem.run_bind, run_underlying Tryz.underlying68, Result.andThen_ok, MapKept.run_getObj_map hb, hc, h4, hj, Option.map_some, Option.getD_some, h3, Instr.keyThatStays, sameBits_pk, if_true, Sem.run_pure, MapKept.run_setObj_map _ hb]
    · simp [hlt]
    · have e0 : addP K p = K := by simp [addP, h1]
      rw [e0, ← hk]
      refine List.ext_getElem? fun i => ?_
      simp only [List.getElem?_map, Array.getElem?_toList, Array.getElem?_modify]
      by_cases hi : j = i
      · subst hi
        simp [hj, h3, hv]
      · simp [hi]
    · intro q hq
      obtain ⟨r, hr, rfl⟩ := List.mem_map.1 hq
      rcases mem_addP.1 hr with hr | rfl
      · exact pl _ _ (h.pl hr)
      · exact pl _ _ hp
end Go.Proofs.YtcdeicfegfedfaaGreatDoor

namespace Go.Proofs.YtcdeicfegfedfaaGreatDoor
open Go.RowKit
open Par (Tok Po Tr nx atP isT ba Res)

set_option maxRecDepth 100000 in
set_option maxHeartbeats 1000000 in
theorem placeC (b off n c d : Nat) (w : World) (hn : 0 < n) :
    Calls Tryz.prog 90 #[.slice (some ⟨b, off, none⟩) n c, .int .i64 (d : Int)] w fun x w' => x = .returned (.agg #[.pointer (some ⟨b, off, none⟩), .int .i64 (n : Int), .int .i64 (d : Int)]) ∧ Below w.heap.size w w' := by
  go_enter Tryz.func90, Tryz.ntmps90
  go_wp2
  exact bodyPost_ret (v := .agg #[.pointer (some ⟨b, off, none⟩), .int .i64 (n : Int), .int .i64 (d : Int)]) (by simp [results, Tryz.results90, go_sem]) rfl ⟨rfl, (Below.refl _ _).alloc (Nat.le_refl _) _⟩
set_option maxRecDepth 100000 in
set_option maxHeartbeats 2000000 in
theorem metC {w : World} {B : Nat} {K : List PK} (h : SetP w B K) (b off n c d : Nat) (hn : 0 < n) (hp : Pln w b) :
    Calls Tryz.prog 57 #[.map (some B), .slice (some ⟨b, off, none⟩) n c, .int .i64 (d : Int)] w fun x w' => x = .returned (.bool (decide ((b, off, n, d) ∈ K))) ∧ SetP w' B (addP K (b, off, n, d)) ∧ w.grownBy w' (some B) := by
  have hpl := placeC b off n c d w hn
  have HS : Hid (SetP w B K) := h
  have HP : Hid (Pln w b) := hp
  clear h hp hn
  go_enter Tryz.func57, Tryz.ntmps57
  go_wp2_with fail
  refine hpl.mono ?_
  rintro x w1 ⟨rfl, hb1⟩
  obtain ⟨w2, hw2⟩ : ∃ w2, w2 = w1.alloc (.cells #[.pointer (some ⟨b, off, none⟩), .int .i64 (n : Int), .int .i64 (d : Int)] 127) := ⟨_, rfl⟩
  have hb2 : Below w.heap.size w w2 := by rw [hw2]; exact hb1.alloc hb1.size _
  have hz2 : w2.heap.size = w1.heap.size + 1 := by rw [hw2]; simp
  have kp : ∀ W : World, Below w.heap.size w W → SetP W B K ∧ Pln W b := fun W hW => ⟨HS.out.keeps (hW.block _ HS.out.lt) fun p hp => hW.block _ (by obtain ⟨cs, e, hh⟩ := HS.out.pl hp; exact lt_of_block hh), HP.out.keeps (hW.block _ (by obtain ⟨cs, e, hh⟩ := HP.out; exact lt_of_block hh))⟩
  have hlk := (kp w2 hb2).1.asks (b, off, n, d) (kp w2 hb2).2
  have hb3 : Below w.heap.size w (w2.alloc (.cells #[] 129)) := hb2.alloc hb2.size _
  obtain ⟨w4, hup, hs4, hg4⟩ := (kp _ hb3).1.put (b, off, n, d) (kp _ hb3).2
  have HE : Hid (SetP w4 B (addP K (b, off, n, d)) ∧ w.grownBy w4 (some B)) := ⟨hs4, ⟨hg4.os.trans hb3.os, hg4.tape.trans hb3.tape, hg4.output.trans hb3.output, Nat.le_trans hb3.size hg4.size, fun k hk hn => (hg4.block k (Nat.lt_of_lt_of_le hk hb3.size) hn).trans (hb3.block k hk)⟩⟩
  rw [hw2] at hlk hup
  unfold pkV at hlk hup
  clear hb1 hb2 hb3 kp hs4 hg4 hw2 hz2
  go_wp2
  go_ret
  exact ⟨rfl, HE.out⟩
set_option maxRecDepth 100000 in
set_option maxHeartbeats 2000000 in
theorem newLC (w : World) : Calls Tryz.prog 31 #[] w fun x w' => x = .returned (.agg #[.map (some (w.heap.size + 1)), .map (some (w.heap.size + 2))]) ∧ SetP w' (w.heap.size + 1) [] ∧ Below w.heap.size w w' := by
  have hmm := @run_makeMap Tryz.prog
  go_enter Tryz.func31, Tryz.ntmps31
  go_wp2
  refine bodyPost_ret (v := .agg #[.map (some (w.heap.size + 1)), .map (some (w.heap.size + 2))]) (by simp [results, Tryz.results31, go_sem]) rfl ⟨rfl, ?_, (((Below.refl _ _).alloc (Nat.le_refl _) _).alloc (by simp) _).alloc (by simp; omega) _⟩
  exact ⟨⟨#[], 0, heap_past_alloc (heap_at_alloc _ _ _ (by simp)), rfl⟩, fun p hp => by simp at hp⟩
end Go.Proofs.YtcdeicfegfedfaaGreatDoor

namespace Go.Proofs.YtcdeicfegfedfaaGreatDoor
open Go.RowKit
open Par (Tok Po Tr nx atP isT ba Res)

/- Expressions stand in a row here. -/
def TrsAt (w : World) (b off n : Nat) (a : List Tr) : Prop := n = a.length ∧ ∃ (c : Nat) (css : List (List Value)), RowAt w (fun b => b < w.heap.size) 7 (some ⟨b, off, none⟩) b off n c css ∧ css.length = a.length ∧ ∀ i (h : i < a.length) (h' : i < css.length), TrIs w (fun b => b < w.heap.size) a[i] css[i]
theorem TrsAt.det {w : World} {b off n : Nat} {a a' : List Tr} (h : TrsAt w b off n a) (g : TrsAt w b off n a') : a = a' := by
  obtain ⟨h0, c, css, hr, hl, hk⟩ := h
  obtain ⟨g0, c', css', gr, gl, gk⟩ := g
  have e : css = css' := by
    refine List.ext_getElem (by omega) fun i hi hi' => ?_
    refine List.ext_getElem ((hr.szs i hi).trans (gr.szs i hi').symm) fun j hj hj' => ?_
    have c1 := hr.cell i hi j _ (List.getElem?_eq_getElem hj)
    have c2 := gr.cell i hi' j _ (List.getElem?_eq_getElem hj')
    exact Option.some.inj (c1.symm.trans c2)
  subst e
  exact List.ext_getElem (by omega) fun i hi hi' => (hk i hi (by omega)).det (gk i hi' (by omega))
/- What is noted deeper than d is formed. -/
def InvP (w : World) (K : List PK) (d : Nat) : Prop := ∀ p ∈ K, d < p.2.2.2 → ∀ a, TrsAt w p.1 p.2.1 p.2.2.1 a → a.all (Par.formD (12 - p.2.2.2)) = true
theorem InvP.none (w : World) (d : Nat) : InvP w [] d := fun p hp => by simp at hp
/- The looker, at what lies within d others. -/
def LkC (w0 : World) (B B2 d : Nat) (t : Tr) : Prop := ∀ (W : World) (b off : Nat) (cs : List Value) (K : List PK), Below w0.heap.size w0 W → SetP W B K → InvP w0 K d → ExAt w0 b off cs → TrIs w0 (fun b => b < w0.heap.size) t cs →
  Calls Tryz.prog 32 #[.agg #[.map (some B), .map (some B2)], .pointer (some ⟨b, off, none⟩), .int .i64 (d : Int)] W fun x W' => ∃ K', x = .returned (.bool (Par.formD (12 - d) t)) ∧ SetP W' B K' ∧ W.grownBy W' (some B) ∧ (∀ p ∈ K', p ∈ K ∨ d < p.2.2.2) ∧ (Par.formD (12 - d) t = true → InvP w0 K' d)
theorem form_alone {m : Nat} {t : Tr} (h : Par.aloneF t = false) : Par.formD m t = false := by
  cases m with
  | zero => rfl
  | succ m => simp [Par.formD, h]
theorem form_kids {d : Nat} (hd : d ≤ 11) {t : Tr} (h : Par.aloneF t = true) : Par.formD (12 - d) t = ((Par.kidsOf t).isEmpty || (decide (d ≠ 11) && (Par.kidsOf t).all (Par.formD (12 - (d + 1))))) := by
  have e : 12 - d = (11 - d) + 1 := by omega
  have e2 : 12 - (d + 1) = 11 - d := by omega
  rw [e, e2]
  simp only [Par.formD, h, Bool.true_and]
  have : decide (11 - d ≠ 0) = decide (d ≠ 11) := by simp; omega
  rw [this]
theorem below_dn {B : Nat} {w w' : World} (h : Below B w w') (n : Nat) : Below B w (w'.drewN n) := ⟨h.os, h.tape, h.output, h.size, h.block⟩
theorem form_met {d : Nat} {a : List Tr} (hd : d ≤ 11) (h0 : a.isEmpty = false) (h : a.all (Par.formD (12 - (d + 1))) = true) : (decide (d ≠ 11) && a.all (Par.formD (12 - (d + 1)))) = true := by
  by_cases e : d = 11
  · subst e
    cases a with
    | nil => cases h0
    | cons x r => simp [Par.formD] at h
  · rw [h]; simp [e]
theorem gr_drew {W W1 W2 : World} {B : Nat} (hb : Below W.heap.size W W1) (hg : W1.drew.grownBy W2 (some B)) : W.grownBy W2 (some B) := ⟨hg.os.trans hb.os, hg.tape.trans hb.tape, hg.output.trans hb.output, Nat.le_trans hb.size hg.size, fun k hk hn => (hg.block k (Nat.lt_of_lt_of_le hk hb.size) hn).trans (hb.block k hk)⟩
theorem gr_two {W wr w3 : World} {B : Nat} (h : W.grownBy wr (some B)) (g : wr.drew.grownBy w3 (some B)) : W.grownBy w3 (some B) := ⟨g.os.trans h.os, g.tape.trans h.tape, g.output.trans h.output, Nat.le_trans h.size g.size, fun k hk hn => (g.block k (Nat.lt_of_lt_of_le hk h.size) hn).trans (h.block k hk hn)⟩
/- What the loop over the kids holds. -/
structure LkS (w0 W wr : World) (B B2 d : Nat) (K1 Ki : List PK) (a : List Tr) (k : Nat) : Prop where
  bel : Below w0.heap.size w0 wr
  gr : W.grownBy wr (some B)
  set : SetP wr B Ki
  inv : InvP w0 Ki (d + 1)
  new : ∀ p ∈ Ki, p ∈ K1 ∨ d + 1 < p.2.2.2
  all : (a.take k).all (Par.formD (12 - (d + 1))) = true
  box : wr.heap[W.heap.size]? = some (.cells #[.map (some B), .map (some B2)] 71 (0, 0))
theorem below_of_gr {w0 W wr : World} {B : Nat} (hW : Below w0.heap.size w0 W) (h : W.grownBy wr (some B)) (hB : w0.heap.size ≤ B) : Below w0.heap.size w0 wr :=
  ⟨h.os.trans hW.os, h.tape.trans hW.tape, h.output.trans hW.output, Nat.le_trans hW.size h.size, fun k hk => (h.block k (Nat.lt_of_lt_of_le hk hW.size) (by simp; omega)).trans (hW.block k hk)⟩
theorem blkL {w : World} {b : Nat} {x y : Value} {e : TypeId} (h : w.heap[b]? = some (.cells #[x, y] e (0, 0))) : w.cell? ⟨b, 0, none⟩ = some x ∧ w.cell? ⟨b, 1, none⟩ = some y := by
  constructor <;> simp [World.cell?, h]
theorem kid_at {w0 : World} {ab aoff n ac : Nat} {css : List (List Value)} (h : RowAt w0 (fun b => b < w0.heap.size) 7 (some ⟨ab, aoff, none⟩) ab aoff n ac css) {i : Nat} (hi : i < css.length) : ExAt w0 ab (aoff + i * 7) css[i] :=
  ⟨h.lt (by omega), fun j u hu => h.cell i hi j u hu⟩
theorem inv_up {w0 : World} {d : Nat} {K Ki : List PK} {key : PK} {a : List Tr} (hI : InvP w0 K d) (hi : InvP w0 Ki (d + 1)) (hn : ∀ p ∈ Ki, p ∈ addP K key ∨ d + 1 < p.2.2.2) (hk : TrsAt w0 key.1 key.2.1 key.2.2.1 a) (hkd : key.2.2.2 = d + 1) (ha : a.all (Par.formD (12 - (d + 1))) = true) : InvP w0 Ki d := by
  intro p hp hd b hb
  by_cases h : d + 1 < p.2.2.2
  · exact hi p hp h b hb
  · have e : p.2.2.2 = d + 1 := by omega
    rcases hn p hp with h1 | h1
    · rcases mem_addP.1 h1 with h2 | rfl
      · exact hI p h2 hd b hb
      · have := hk.det hb
        subst this
        rw [e]; exact ha
    · omega
theorem inv_add {w0 : World} {d : Nat} {K : List PK} {key : PK} (hI : InvP w0 K d) (hkd : key.2.2.2 = d + 1) : InvP w0 (addP K key) (d + 1) := by
  intro p hp hd
  rcases mem_addP.1 hp with h | rfl
  · exact hI p h (by omega)
  · omega
set_option maxRecDepth 100000 in
set_option maxHeartbeats 8000000 in
theorem look_step {w0 : World} {B B2 d : Nat} (hB : w0.heap.size ≤ B) (hlv : LevAt w0 w0.heap.size) (hd : d ≤ 11) (hnext : d < 11 → ∀ t, LkC w0 B B2 (d + 1) t) (t : Tr) : LkC w0 B B2 d t := by
  intro W b off cs K hW hS hI hx ht
  obtain ⟨W0, hW0⟩ : ∃ W0, W0 = W.alloc (.cells #[.map (some B), .map (some B2)] 71) := ⟨_, rfl⟩
  have hbW0 : Below W.heap.size W W0 := by rw [hW0]; exact (Below.refl _ _).alloc (Nat.le_refl _) _
  have hb0 : Below w0.heap.size w0 W0 := hW.trans (hbW0.mono hW.size)
  have hx0 : ∀ V, Below w0.heap.size w0 V → ExAt V b off cs ∧ TrIs V (fun b => b < w0.heap.size) t cs := fun V hV => ⟨hx.keeps hV.size (hV.block _ hx.lt), ht.keeps ⟨hV.size, fun b hb _ => hV.block b hb⟩⟩
  have hal := aloneC (hx0 W0 hb0).1 (hx0 W0 hb0).2 (hlv.keeps hb0.size fun b hb => hb0.block b hb)
  have hk0 : W0.heap[W.heap.size]? = some (.cells #[.map (some B), .map (some B2)] 71 (0, 0)) := by rw [hW0]; exact heap_at_alloc _ _ _ rfl
  have hS0 : ∀ V, Below W.heap.size W V → SetP V B K := fun V hV => hS.keeps (hV.block _ hS.lt) fun p hp => hV.block _ (by obtain ⟨cs, e, hh⟩ := hS.pl hp; exact lt_of_block hh)
  cases haf : Par.aloneF t with
  | false =>
    have HF : Hid (Par.formD (12 - d) t = false) := form_alone haf
    have HS : Hid (∀ V, Below W.heap.size W V → SetP V B K) := hS0
    have HB : Hid (Below W.heap.size W W0) := hbW0
    rw [HF.out]
    rw [haf] at hal
    clear haf hx0 hS0 hx ht hI hS hW hb0 hk0 hbW0
    go_enter Tryz.func32, Tryz.ntmps32
    go_wp2_with fail
    rw [← hW0]
    clear hW0
    refine hal.mono ?_
    rintro x W1 ⟨rfl, hb1⟩
    go_wp2
    go_ret
    have hb : Below W.heap.size W W1 := HB.out.trans (hb1.mono HB.out.size)
    exact ⟨K, rfl, HS.out _ hb, ⟨hb.os, hb.tape, hb.output, hb.size, fun k hk _ => hb.block k hk⟩, fun p hp => .inl hp, fun h => by cases h⟩
  | true =>
    cases ht with
    | @mk k p n ty s l a lv av css hs hl hr hcl hk =>
    have hfk := form_kids hd haf
    have hka : Par.kidsOf (.mk k p n ty s l a) = a := rfl
    rw [hka] at hfk
    obtain ⟨ao, ab, aoff, ac, rfl, har⟩ := hr
    have ham := har.mx
    have hac := har.cap
    rw [haf] at hal
    have HX0 : Hid (∀ V, Below w0.heap.size w0 V → ExAt V b off [.int .i64 k, .int .i64 p, .int .i64 n, .int .i64 ty, .string s, lv, .slice ao css.length ac]) := fun V hV => (hx0 V hV).1
    have HS : Hid (∀ V, Below W.heap.size W V → SetP V B K) := hS0
    have HB : Hid (Below W.heap.size W W0) := hbW0
    have HW : Hid (Below w0.heap.size w0 W) := hW
    have HK0 : Hid (W0.heap[W.heap.size]? = some (.cells #[.map (some B), .map (some B2)] 71 (0, 0))) := hk0
    have HFK : Hid (Par.formD (12 - d) (.mk k p n ty s l a) = (a.isEmpty || (decide (d ≠ 11) && a.all (Par.formD (12 - (d + 1)))))) := hfk
    have hxl := hx.lt
    have hWz := hW.size
    have HI : Hid (InvP w0 K d) := hI
    unfold maxLen at ham
    clear haf hx0 hS0 hx hI hS hW hb0 hk0 hbW0 hfk hka
    rcases Nat.eq_zero_or_pos css.length with hn0 | hn0
    · have HF : Hid (Par.formD (12 - d) (.mk k p n ty s l a) = true) := by
        show _ = _
        rw [HFK.out, List.length_eq_zero_iff.1 (by omega : a.length = 0)]; rfl
      rw [HF.out]
      rw [hn0] at HX0
      clear har hcl hk hac HFK hn0
      go_enter Tryz.func32, Tryz.ntmps32
      go_wp2_with fail
      rw [← hW0]
      clear hW0
      refine hal.mono ?_
      rintro x W1 ⟨rfl, hb1⟩
      have hb : Below W.heap.size W W1 := HB.out.trans (hb1.mono HB.out.size)
      obtain ⟨c0, c1, c2, c3, c4, c5, c6⟩ := (HX0.out W1 (HW.out.trans (hb.mono hWz))).all
      have hlt := (HX0.out W1 (HW.out.trans (hb.mono hWz))).lt
      have HB1 : Hid (Below W.heap.size W W1) := hb
      clear hb1 hb
      go_wp2
      go_quiet (fail)
      go_wp2
      go_ret
      have hb := below_dn HB1.out nq
      exact ⟨K, rfl, HS.out _ hb, ⟨hb.os, hb.tape, hb.output, hb.size, fun k hk _ => hb.block k hk⟩, fun p hp => .inl hp, fun _ => HI.out⟩
    · have hao := har.adr hn0
      subst hao
      have hpl := har.pl hn0
      have HTA : Hid (TrsAt w0 ab aoff css.length a) := ⟨hcl, ac, css, har, hcl, hk⟩
      have HKID : Hid (∀ i (h : i < css.length), ExAt w0 ab (aoff + i * 7) css[i]) := fun i hi => kid_at har hi
      have HTI : Hid (∀ i (h : i < a.length) (h' : i < css.length), TrIs w0 (fun b => b < w0.heap.size) a[i] css[i]) := hk
      have habl := har.lt hn0
      have HLN : Hid (css.length = a.length) := hcl
      have HPL : Hid (Pln w0 ab) := hpl
      have HNX : Hid (d < 11 → ∀ t, LkC w0 B B2 (d + 1) t) := hnext
      have hane : a.isEmpty = false := by
        cases a with
        | nil => have h0 : css.length = 0 := hcl; omega
        | cons _ _ => rfl
      have HNE : Hid (a.isEmpty = false) := hane
      rw [hane, Bool.false_or] at HFK
      obtain ⟨m, hm⟩ : ∃ m, m = css.length := ⟨_, rfl⟩
      have HM : Hid (m = css.length) := hm
      rw [← hm] at HX0 HTA hn0 hac
      clear har hcl hk hpl hnext hane hm
      have wd : IntKind.i64.wrap ((d : Int) + 1) = ((d + 1 : Nat) : Int) := by rw [IntKind.wrap_i64]; omega
      by_cases hmem : (ab, aoff, m, d + 1) ∈ K
      · have HF : Hid (Par.formD (12 - d) (.mk k p n ty s l a) = true) := by
          show _ = _
          rw [HFK.out]
          exact form_met hd HNE.out (HI.out _ hmem (Nat.lt_succ_self d) a HTA.out)
        have HAD : Hid (addP K (ab, aoff, m, d + 1) = K) := by show _ = _; unfold addP; rw [if_pos hmem]
        have HME : Hid ((ab, aoff, m, d + 1) ∈ K) := hmem
        rw [HF.out]
        clear HF HFK hmem
        go_enter Tryz.func32, Tryz.ntmps32
        go_wp2_with fail
        rw [← hW0]
        clear hW0
        refine hal.mono ?_
        rintro x W1 ⟨rfl, hb1⟩
        have hb : Below W.heap.size W W1 := HB.out.trans (hb1.mono HB.out.size)
        have hbw : Below w0.heap.size w0 W1 := HW.out.trans (hb.mono hWz)
        obtain ⟨c0, c1, c2, c3, c4, c5, c6⟩ := (HX0.out W1 hbw).all
        have hlt := (HX0.out W1 hbw).lt
        have hk1 : W1.heap[W.heap.size]? = some (.cells #[.map (some B), .map (some B2)] 71 (0, 0)) := (hb1.block _ (lt_of_block HK0.out)).trans HK0.out
        obtain ⟨l0, l1⟩ := blkL hk1
        have hlk := lt_of_block hk1
        have hmt := metC (w := W1.drew) (HS.out _ (below_dn hb 1)) ab aoff m ac (d + 1) hn0 (HPL.out.keeps (hbw.block _ habl))
        rw [decide_eq_true HME.out, HAD.out] at hmt
        have HMT : Hid (Calls Tryz.prog 57 #[.map (some B), .slice (some ⟨ab, aoff, none⟩) m ac, .int .i64 ((d + 1 : Nat) : Int)] W1.drew fun x w' => x = .returned (.bool true) ∧ SetP w' B K ∧ W1.drew.grownBy w' (some B)) := hmt
        have hbB : b ≠ B := by omega
        have hLB : W.heap.size ≠ B := by have := (HS.out _ (Below.refl _ _)).lt; omega
        have HB1 : Hid (Below W.heap.size W W1) := hb
        have m0 : ((m : Int) == 0) = false := by simp; omega
        clear hmt hb1 hb hbw hk1
        go_wp2
        go_region_held3 (fun w' => w'.cell? ⟨W.heap.size, 0, none⟩ = some (.map (some B)) ∧ w'.cell? ⟨b, off + 6, none⟩ = some (.slice (some ⟨ab, aoff, none⟩) m ac)) (go_keep)
          (first
            | (go_at_call 57; refine (HMT.out).mono ?_; rintro x W2 ⟨rfl, hs2, hg2⟩; have HS2 : Hid (SetP W2 B K) := hs2; have HG2 : Hid (W1.drew.grownBy W2 (some B)) := hg2; have q0 : W2.cell? ⟨W.heap.size, 0, none⟩ = some (.map (some B)) := (World.cell?_of_block (a := ⟨W.heap.size, 0, none⟩) (hg2.block W.heap.size hlk (by simp [hLB]))).trans l0; have q1 : W2.cell? ⟨b, off + 6, none⟩ = some (.slice (some ⟨ab, aoff, none⟩) m ac) := (World.cell?_of_block (a := ⟨b, off + 6, none⟩) (hg2.block b hlt (by simp [hbB]))).trans c6; clear hs2 hg2))
        all_goals go_wp2
        all_goals go_ret
        exact ⟨K, rfl, HS2.out, gr_drew HB1.out HG2.out, fun p hp => .inl hp, fun _ => HI.out⟩
      · have HME : Hid ((ab, aoff, m, d + 1) ∉ K) := hmem
        have HADD : Hid (InvP w0 (addP K (ab, aoff, m, d + 1)) (d + 1)) := inv_add HI.out rfl
        clear hmem
        go_enter Tryz.func32, Tryz.ntmps32
        go_wp2_with fail
        rw [← hW0]
        clear hW0
        refine hal.mono ?_
        rintro x W1 ⟨rfl, hb1⟩
        have hb : Below W.heap.size W W1 := HB.out.trans (hb1.mono HB.out.size)
        have hbw : Below w0.heap.size w0 W1 := HW.out.trans (hb.mono hWz)
        obtain ⟨c0, c1, c2, c3, c4, c5, c6⟩ := (HX0.out W1 hbw).all
        have hlt := (HX0.out W1 hbw).lt
        have hk1 : W1.heap[W.heap.size]? = some (.cells #[.map (some B), .map (some B2)] 71 (0, 0)) := (hb1.block _ (lt_of_block HK0.out)).trans HK0.out
        obtain ⟨l0, l1⟩ := blkL hk1
        have hlk := lt_of_block hk1
        have hmt := metC (w := W1.drew) (HS.out _ (below_dn hb 1)) ab aoff m ac (d + 1) hn0 (HPL.out.keeps (hbw.block _ habl))
        rw [decide_eq_false HME.out] at hmt
        have HMT : Hid (Calls Tryz.prog 57 #[.map (some B), .slice (some ⟨ab, aoff, none⟩) m ac, .int .i64 ((d + 1 : Nat) : Int)] W1.drew fun x w' => x = .returned (.bool false) ∧ SetP w' B (addP K (ab, aoff, m, d + 1)) ∧ W1.drew.grownBy w' (some B)) := hmt
        have hbB : b ≠ B := by omega
        have hLB : W.heap.size ≠ B := by have := (HS.out _ (Below.refl _ _)).lt; omega
        have HB1 : Hid (Below W.heap.size W W1) := hb
        have HK1 : Hid (W1.heap[W.heap.size]? = some (.cells #[.map (some B), .map (some B2)] 71 (0, 0))) := hk1
        have m0 : ((m : Int) == 0) = false := by simp; omega
        clear hmt hb1 hb hbw hk1
        go_wp2
        go_region_held3 (fun w' => w'.cell? ⟨W.heap.size, 0, none⟩ = some (.map (some B)) ∧ w'.cell? ⟨b, off + 6, none⟩ = some (.slice (some ⟨ab, aoff, none⟩) m ac)) (go_keep)
          (first
            | (go_at_call 57; refine (HMT.out).mono ?_; rintro x W2 ⟨rfl, hs2, hg2⟩; have HS2 : Hid (SetP W2 B (addP K (ab, aoff, m, d + 1))) := hs2; have HG2 : Hid (W1.drew.grownBy W2 (some B)) := hg2; have q0 : W2.cell? ⟨W.heap.size, 0, none⟩ = some (.map (some B)) := (World.cell?_of_block (a := ⟨W.heap.size, 0, none⟩) (hg2.block W.heap.size hlk (by simp [hLB]))).trans l0; have q1 : W2.cell? ⟨b, off + 6, none⟩ = some (.slice (some ⟨ab, aoff, none⟩) m ac) := (World.cell?_of_block (a := ⟨b, off + 6, none⟩) (hg2.block b hlt (by simp [hbB]))).trans c6; clear hs2 hg2))
        have HGR : Hid (W.grownBy W2 (some B)) := gr_drew HB1.out HG2.out
        have hlt2 : b < W2.heap.size := by have := HG2.out.size; have : W1.heap.size ≤ W2.heap.size := this; omega
        by_cases hd11 : d = 11
        · have HF : Hid (Par.formD (12 - d) (.mk k p n ty s l a) = false) := by show _ = _; rw [HFK.out]; simp [hd11]
          have HNEW : Hid (∀ p ∈ addP K (ab, aoff, m, d + 1), p ∈ K ∨ d < p.2.2.2) := fun p hp => by
            rcases mem_addP.1 hp with h | rfl
            · exact .inl h
            · exact .inr (Nat.lt_succ_self d)
          have d1 : ((d : Int) + 1 == 12) = true := by simp [hd11]
          clear HFK HNX
          go_wp2
          go_ret
          exact ⟨_, by rw [HF.out]; rfl, HS2.out, HGR.out, HNEW.out, fun h => by rw [HF.out] at h; cases h⟩
        · have d1 : ((d : Int) + 1 == 12) = false := by simp; omega
          have HSL : Hid (LkS w0 W W2 B B2 d (addP K (ab, aoff, m, d + 1)) (addP K (ab, aoff, m, d + 1)) a 0) :=
            ⟨below_of_gr HW.out HGR.out hB, HGR.out, HS2.out, HADD.out, fun p hp => .inl hp, by simp, (HG2.out.block _ hlk (by simp [hLB])).trans HK1.out⟩
          have HN : Hid (∀ t, LkC w0 B B2 (d + 1) t) := HNX.out (by omega)
          have HFK2 : Hid (Par.formD (12 - d) (.mk k p n ty s l a) = a.all (Par.formD (12 - (d + 1)))) := by show _ = _; rw [HFK.out]; simp [hd11]
          clear HFK HNX HS2 HG2 HGR HMT HME c0 c1 c2 c3 c4 c5 c6 l0 l1 q0 HK1 HADD
          go_wp2
          go_loopw [36] (fun i wr => ∃ (j : Nat) (Ki : List PK), j ≤ m ∧ i = .int .i64 j ∧ Hid (LkS w0 W wr B B2 d (addP K (ab, aoff, m, d + 1)) Ki a j)) (fun i _ => m - (intOf i).toNat)
          case atStart => exact ⟨0, _, Nat.zero_le _, rfl, HSL⟩
          case round =>
            obtain ⟨j, Ki, hj, rfl, HL⟩ := hrel
            have ml := HM.out
            by_cases hlt' : j < m
            · have hjc : j < css.length := by omega
              have hja : j < a.length := by have := HLN.out; omega
              have hxr := (HX0.out wr HL.out.bel)
              obtain ⟨_, _, _, _, _, _, c6⟩ := hxr.all
              have hxlt := hxr.lt
              obtain ⟨l0, l1⟩ := blkL HL.out.box
              have hbl := lt_of_block HL.out.box
              have hcall := HN.out a[j] wr.drew ab (aoff + j * 7) css[j] Ki (below_dn HL.out.bel 1) (HL.out.set.keeps rfl fun _ _ => rfl) HL.out.inv (HKID.out j hjc) (HTI.out j hja hjc)
              cases hq : Par.formD (12 - (d + 1)) a[j] with
              | true =>
                rw [hq] at hcall
                have HQ : Hid (Par.formD (12 - (d + 1)) a[j] = true) := hq
                have HC : Hid (Calls Tryz.prog 32 #[.agg #[.map (some B), .map (some B2)], .pointer (some ⟨ab, aoff + j * 7, none⟩), .int .i64 ((d + 1 : Nat) : Int)] wr.drew fun x W' => ∃ K', x = .returned (.bool true) ∧ SetP W' B K' ∧ wr.drew.grownBy W' (some B) ∧ (∀ p ∈ K', p ∈ Ki ∨ d + 1 < p.2.2.2) ∧ InvP w0 K' (d + 1)) := hcall.mono fun x W' ⟨K', e1, e2, e3, e4, e5⟩ => ⟨K', e1, e2, e3, e4, e5 rfl⟩
                clear hcall hq hxr ml
                go_wp2
                go_region_held3 (fun w' => w'.cell? ⟨W.heap.size, 0, none⟩ = some (.map (some B)) ∧ w'.cell? ⟨W.heap.size, 1, none⟩ = some (.map (some B2)) ∧ w'.cell? ⟨b, off + 6, none⟩ = some (.slice (some ⟨ab, aoff, none⟩) m ac)) (go_keep)
                  (first
                    | (go_at_call 32; refine (HC.out).mono ?_; rintro x w3 ⟨K', rfl, hs3, hg3, hn3, hi3⟩; have H3 : Hid (SetP w3 B K' ∧ wr.drew.grownBy w3 (some B) ∧ (∀ p ∈ K', p ∈ Ki ∨ d + 1 < p.2.2.2) ∧ InvP w0 K' (d + 1)) := ⟨hs3, hg3, hn3, hi3⟩; have q0 : w3.cell? ⟨W.heap.size, 0, none⟩ = some (.map (some B)) := (World.cell?_of_block (a := ⟨W.heap.size, 0, none⟩) (hg3.block W.heap.size hbl (by simp [hLB]))).trans l0; have q1 : w3.cell? ⟨W.heap.size, 1, none⟩ = some (.map (some B2)) := (World.cell?_of_block (a := ⟨W.heap.size, 1, none⟩) (hg3.block W.heap.size hbl (by simp [hLB]))).trans l1; have q2 : w3.cell? ⟨b, off + 6, none⟩ = some (.slice (some ⟨ab, aoff, none⟩) m ac) := (World.cell?_of_block (a := ⟨b, off + 6, none⟩) (hg3.block b hxlt (by simp [hbB]))).trans c6; clear hs3 hg3 hn3 hi3))
                all_goals go_wp2
                go_roundw
                case rel =>
                  refine ⟨j + 1, K', by omega, by go_num, ?_⟩
                  obtain ⟨h1, h2, h3, h4⟩ := H3.out
                  have hg := gr_two HL.out.gr h2
                  refine ⟨below_of_gr HW.out hg hB, hg, h1, h4, fun p hp => ?_, ?_, (h2.block _ hbl (by simp [hLB])).trans HL.out.box⟩
                  · rcases h3 p hp with h | h
                    · exact HL.out.new p h
                    · exact .inr h
                  · rw [List.take_succ_eq_append_getElem hja, List.all_append, HL.out.all, Bool.true_and, List.all_cons, HQ.out]
                    rfl
                case measure => simp [intOf]; omega
              | false =>
                rw [hq] at hcall
                have HQ : Hid (a.all (Par.formD (12 - (d + 1))) = false) := by
                  show _ = _
                  rw [List.all_eq_false]
                  exact ⟨a[j], List.getElem_mem hja, by rw [hq]; simp⟩
                have HC : Hid (Calls Tryz.prog 32 #[.agg #[.map (some B), .map (some B2)], .pointer (some ⟨ab, aoff + j * 7, none⟩), .int .i64 ((d + 1 : Nat) : Int)] wr.drew fun x W' => ∃ K', x = .returned (.bool false) ∧ SetP W' B K' ∧ wr.drew.grownBy W' (some B) ∧ (∀ p ∈ K', p ∈ Ki ∨ d + 1 < p.2.2.2) ∧ True) := hcall.mono fun x W' ⟨K', e1, e2, e3, e4, _⟩ => ⟨K', e1, e2, e3, e4, trivial⟩
                clear hcall hq hxr ml
                go_wp2
                go_region_held3 (fun w' => w'.cell? ⟨W.heap.size, 0, none⟩ = some (.map (some B)) ∧ w'.cell? ⟨W.heap.size, 1, none⟩ = some (.map (some B2)) ∧ w'.cell? ⟨b, off + 6, none⟩ = some (.slice (some ⟨ab, aoff, none⟩) m ac)) (go_keep)
                  (first
                    | (go_at_call 32; refine (HC.out).mono ?_; rintro x w3 ⟨K', rfl, hs3, hg3, hn3, hi3⟩; have H3 : Hid (SetP w3 B K' ∧ wr.drew.grownBy w3 (some B) ∧ (∀ p ∈ K', p ∈ Ki ∨ d + 1 < p.2.2.2) ∧ True) := ⟨hs3, hg3, hn3, trivial⟩; have q0 : w3.cell? ⟨W.heap.size, 0, none⟩ = some (.map (some B)) := (World.cell?_of_block (a := ⟨W.heap.size, 0, none⟩) (hg3.block W.heap.size hbl (by simp [hLB]))).trans l0; have q1 : w3.cell? ⟨W.heap.size, 1, none⟩ = some (.map (some B2)) := (World.cell?_of_block (a := ⟨W.heap.size, 1, none⟩) (hg3.block W.heap.size hbl (by simp [hLB]))).trans l1; have q2 : w3.cell? ⟨b, off + 6, none⟩ = some (.slice (some ⟨ab, aoff, none⟩) m ac) := (World.cell?_of_block (a := ⟨b, off + 6, none⟩) (hg3.block b hxlt (by simp [hbB]))).trans c6; clear hs3 hg3 hn3 hi3))
                all_goals go_wp2
                go_ret
                obtain ⟨h1, h2, h3, h4⟩ := H3.out
                refine ⟨K', by rw [HFK2.out, HQ.out]; rfl, h1, gr_two HL.out.gr h2, fun p hp => ?_, fun h => by rw [HFK2.out, HQ.out] at h; cases h⟩
                rcases h3 p hp with h | h
                · rcases HL.out.new p h with h' | h'
                  · rcases mem_addP.1 h' with h' | rfl
                    · exact .inl h'
                    · exact .inr (Nat.lt_succ_self d)
                  · exact .inr (by omega)
                · exact .inr (by omega)
            · have HQ : Hid (a.all (Par.formD (12 - (d + 1))) = true) := by
                have h := HL.out.all
                rwa [List.take_of_length_le (by have := HLN.out; omega)] at h
              clear ml
              go_wp2
              go_ret
              refine ⟨Ki, by rw [HFK2.out, HQ.out]; rfl, HL.out.set, HL.out.gr, fun p hp => ?_, fun _ => inv_up HI.out HL.out.inv HL.out.new HTA.out rfl HQ.out⟩
              rcases HL.out.new p hp with h' | h'
              · rcases mem_addP.1 h' with h' | rfl
                · exact .inl h'
                · exact .inr (Nat.lt_succ_self d)
              · exact .inr (by omega)
/- tree.Formed's looker at whatever depth. -/
theorem look_all {w0 : World} {B B2 : Nat} (hB : w0.heap.size ≤ B) (hlv : LevAt w0 w0.heap.size) : ∀ m d, d + m = 11 → ∀ t, LkC w0 B B2 d t := by
  intro m
  induction m with
  | zero => intro d h t; exact look_step hB hlv (by omega) (fun h' => by omega) t
  | succ m ih => intro d h t; exact look_step hB hlv (by omega) (fun _ => ih (d + 1) (by omega)) t
end Go.Proofs.YtcdeicfegfedfaaGreatDoor

namespace Go.Proofs.YtcdeicfegfedfaaGreatDoor
open Go.RowKit
open Par (Tok Po Tr nx atP isT ba Res)

set_option maxRecDepth 100000 in
set_option maxHeartbeats 2000000 in
theorem formedC {w : World} {S : Nat → Prop} {t : Tr} {z0 z1 z2 z3 : Int} {z4 : ByteArray} {z5 : Option Addr} {m5 d5 : Nat} {z6 : Option Addr} {m6 d6 : Nat} (ht : TrIs w S t [.int .i64 z0, .int .i64 z1, .int .i64 z2, .int .i64 z3, .string z4, .slice z5 m5 d5, .slice z6 m6 d6]) (hlv : LevAt w w.heap.size) :
    Calls Tryz.prog 14 #[.agg #[.int .i64 z0, .int .i64 z1, .int .i64 z2, .int .i64 z3, .string z4, .slice z5 m5 d5, .slice z6 m6 d6]] w fun x w' => x = .returned (.bool (Par.formD 12 t)) ∧ Below w.heap.size w w' := by
  obtain ⟨w0, hw0⟩ : ∃ w0, w0 = w.alloc (.cells #[.int .i64 z0, .int .i64 z1, .int .i64 z2, .int .i64 z3, .string z4, .slice z5 m5 d5, .slice z6 m6 d6] 26) := ⟨_, rfl⟩
  have hb0 : Below w.heap.size w w0 := by rw [hw0]; exact (Below.refl _ _).alloc (Nat.le_refl _) _
  have hz0 : w0.heap.size = w.heap.size + 1 := by rw [hw0]; simp
  have hbx : w0.heap[w.heap.size]? = some (.cells #[.int .i64 z0, .int .i64 z1, .int .i64 z2, .int .i64 z3, .string z4, .slice z5 m5 d5, .slice z6 m6 d6] 26 (0, 0)) := by rw [hw0]; exact heap_at_alloc _ _ _ rfl
  have hx : ExAt w0 w.heap.size 0 [.int .i64 z0, .int .i64 z1, .int .i64 z2, .int .i64 z3, .string z4, .slice z5 m5 d5, .slice z6 m6 d6] := ⟨by omega, fun j u hu => by
    simp only [World.cell?, hbx]
    simpa using hu⟩
  have ht0 : TrIs w0 (fun b => b < w0.heap.size) t [.int .i64 z0, .int .i64 z1, .int .i64 z2, .int .i64 z3, .string z4, .slice z5 m5 d5, .slice z6 m6 d6] := (ht.keeps (Keeps.of_below hb0)).mono fun b _ h => h
  have hlv0 : LevAt w0 w0.heap.size := (hlv.keeps hb0.size fun b hb => hb0.block b hb).mono (by omega)
  have hnl := newLC w0
  obtain ⟨r, hr⟩ : ∃ r, r = Par.formD (12 - 0) t := ⟨_, rfl⟩
  have e12 : Par.formD 12 t = r := hr.symm
  rw [e12]
  have HX : Hid (∀ (W : World), Below w0.heap.size w0 W → SetP W (w0.heap.size + 1) [] → Calls Tryz.prog 32 #[.agg #[.map (some (w0.heap.size + 1)), .map (some (w0.heap.size + 2))], .pointer (some ⟨w.heap.size, 0, none⟩), .int .i64 0] W fun x W' => x = .returned (.bool r) ∧ W.grownBy W' (some (w0.heap.size + 1))) := by
    intro W hW hS
    rw [hr]
    refine (look_all (B := w0.heap.size + 1) (B2 := w0.heap.size + 2) (by omega) hlv0 11 0 rfl t W w.heap.size 0 _ [] hW hS (InvP.none _ _) hx ht0).mono ?_
    rintro x W' ⟨K', h1, _, h2, _, _⟩
    exact ⟨h1, h2⟩
  have HB : Hid (Below w.heap.size w w0) := hb0
  have HZ : Hid (w0.heap.size = w.heap.size + 1) := hz0
  clear hx ht0 hlv0 hb0 ht hlv hbx hr e12 hz0
  go_enter Tryz.func14, Tryz.ntmps14
  go_wp2_with fail
  rw [← hw0]
  clear hw0
  refine hnl.mono ?_
  rintro x w1 ⟨rfl, hs1, hb1⟩
  have hc := HX.out w1 hb1 hs1
  have HB1 : Hid (Below w0.heap.size w0 w1) := hb1
  clear hs1 hb1
  go_wp2_with fail
  refine hc.mono ?_
  rintro x w2 ⟨rfl, hg⟩
  have HG : Hid (w1.grownBy w2 (some (w0.heap.size + 1))) := hg
  clear hg
  go_wp2
  go_ret
  have hz := HZ.out
  exact ⟨rfl, HB.out.trans ((below_of_gr HB1.out HG.out (by omega)).mono (by omega))⟩
end Go.Proofs.YtcdeicfegfedfaaGreatDoor
