/- Maps whose keys are places: where a list lies, how many it is, how deep. -/
import Derived.Test.YtikejmokejghcaaGreatDoorChecked
import Derived.Test.YtikejmokejghcaaGreatDoorGrow
import Derived.LaidEql
import Derived.Laws.StructEq
import Derived.MapKept
import Derived.WideKeyRuns
import Derived.WalkKit
import Derived.ProofKit
namespace Go.Proofs.YtikejmokejghcaaGreatDoor
open Go.RowKit

/- A block, an offset, how many, how deep. -/
abbrev PK := Nat × Nat × Nat × Nat
def pkV (p : PK) : Value := .agg #[.pointer (some ⟨p.1, p.2.1, none⟩), .int .i64 (p.2.2.1 : Int), .int .i64 (p.2.2.2 : Int)]
def Pln (w : World) (b : Nat) : Prop := ∃ cs e, w.heap[b]? = some (.cells cs e (0, 0))
theorem pkV_inj {p q : PK} (h : pkV p = pkV q) : p = q := by
  obtain ⟨a, b, c, d⟩ := p
  obtain ⟨a', b', c', d'⟩ := q
  simp [pkV] at h
  obtain ⟨⟨h1, h2⟩, h3, h4⟩ := h
  simp [h1, h2]; omega
theorem ptrSize : (Tryz.prog.info? 26).map (·.size) = some 7 := by kernel_rfl
theorem plFields : (Tryz.prog.fieldsOf 94).toList.map (fun f => (f.name, f.type, f.offset)) = [("first", 59, 0), ("n", 3, 1), ("deep", 3, 2)] := by kernel_rfl
theorem plWide : (match Tryz.prog.underlying 94 with | some (.array _ _) | some (.struct _) => true | _ => false) = true := by kernel_rfl
theorem plStruct : Tryz.prog.underlying 94 = some (.struct (Tryz.prog.fieldsOf 94)) := by kernel_rfl
theorem plHeld : Tryz.prog.stoodInHeld 94 = false := by kernel_rfl
theorem plCheck (em : Bool) (p : PK) (w : World) : (Instr.checkKey em 10000 94 (pkV p)).run Tryz.prog w = .ok () w := by unfold pkV; kernel_rfl
theorem part0 (x y z : Value) (w : World) : (part 59 #[x, y, z] 0).run Tryz.prog w = .ok x w := by kernel_rfl
theorem part1 (x y z : Value) (w : World) : (part 3 #[x, y, z] 1).run Tryz.prog w = .ok y w := by kernel_rfl
theorem part2 (x y z : Value) (w : World) : (part 3 #[x, y, z] 2).run Tryz.prog w = .ok z w := by kernel_rfl
theorem eqPtr (d : Nat) (a b : Addr) (w : World) : (Op.equalIn (d + 1) 59 (.pointer (some a)) (.pointer (some b))).run Tryz.prog w = (sameAddr a b).run Tryz.prog w := by
  have hs := ptrSize
  cases hi : Tryz.prog.info? 26 with
  | none => rw [hi] at hs; simp at hs
  | some i =>
    rw [hi] at hs
    have hz : i.size = 7 := by simpa using hs
    simp [Op.equalIn, run_underlying Tryz.underlying59, sizeOf, typeInfo, hi, hz]
set_option maxRecDepth 10000 in
theorem eqPK (w : World) (p q : PK) (hp : Pln w p.1) (hq : Pln w q.1) : (Op.equal 94 (pkV p) (pkV q)).run Tryz.prog w = .ok (decide (p = q)) w := by
  obtain ⟨cs, e, hp⟩ := hp
  obtain ⟨cs', e', hq⟩ := hq
  have key : (sameAddr ⟨p.1, p.2.1, none⟩ ⟨q.1, q.2.1, none⟩).run Tryz.prog w = .ok (decide ((p.1, p.2.1) = (q.1, q.2.1))) w := by
    by_cases h : (p.1, p.2.1) = (q.1, q.2.1)
    · simp only [Prod.mk.injEq] at h
      rw [h.1, h.2]
      rw [run_sameAddr_same]; simp
    · rw [run_sameAddr_other w (fun hh => h (by simp only [Addr.mk.injEq, and_true] at hh; rw [hh.1, hh.2])) hp hq]
      simp [h]
  obtain ⟨a, b, c, d⟩ := p
  obtain ⟨a', b', c', d'⟩ := q
  have hf := plFields
  unfold pkV
  show (Op.equalIn (9999 + 1) _ _ _).run _ _ = _
  rw [run_equalIn_struct w 9999 _ _ _ plStruct plHeld]
  match hm : (Tryz.prog.fieldsOf 94).toList with
  | [] => rw [hm] at hf; simp at hf
  | [_] => rw [hm] at hf; simp at hf
  | [_, _] => rw [hm] at hf; simp at hf
  | f0 :: f1 :: f2 :: f3 :: _ => rw [hm] at hf; simp at hf
  | [f0, f1, f2] =>
    rw [hm] at hf
    simp only [List.map_cons, List.map_nil, List.cons.injEq, Prod.mk.injEq, and_true] at hf
    obtain ⟨⟨n0, t0, o0⟩, ⟨n1, t1, o1⟩, n2, t2, o2⟩ := hf
    have ep := eqPtr 9998 ⟨a, b, none⟩ ⟨a', b', none⟩ w
    have i1 := run_equalIn_int (P := Tryz.prog) w 9998 3 .i64 .i64 (c : Int) (c' : Int) Tryz.underlying3
    have i2 := run_equalIn_int (P := Tryz.prog) w 9998 3 .i64 .i64 (d : Int) (d' : Int) Tryz.underlying3
    simp only [Op.eqFields, n0, n1, n2, t0, t1, t2, o0, o1, o2, ne_eq, String.reduceEq, not_false_eq_true, if_true, Sem.run_bind, part0, part1, part2, Result.andThen_ok, ep, key, i1, i2, Sem.run_ite, Sem.run_pure]
    by_cases h1 : (a, b) = (a', b')
    · simp only [Prod.mk.injEq] at h1
      obtain ⟨rfl, rfl⟩ := h1
      by_cases h2 : c = c'
      · subst h2
        by_cases h3 : d = d'
        · subst h3; simp
        · have : ¬ ((d : Int) = d') := by omega
          simp [h3, this]
      · have : ¬ ((c : Int) = c') := by omega
        simp [h2, this]
    · have h1' : ¬ (a = a' ∧ b = b') := by simpa using h1
      have : ¬ ((a, b, c, d) = (a', b', c', d')) := by
        intro e; simp only [Prod.mk.injEq] at e; exact h1' ⟨e.1, e.2.1⟩
      simp [h1', this]
theorem find_run (w : World) (p : PK) (hp : Pln w p.1) : ∀ (es : List MapEntry) (K : List PK) (i : Nat), es.map (·.key) = K.map pkV → (∀ q ∈ K, Pln w q.1) →
    (p ∉ K ∧ (Instr.findAsking 94 (pkV p) es i).run Tryz.prog w = .ok none w) ∨ (p ∈ K ∧ ∃ j e, es[j]? = some e ∧ e.key = pkV p ∧ (Instr.findAsking 94 (pkV p) es i).run Tryz.prog w = .ok (some (i + j, e.val)) w) := by
  intro es
  induction es with
  | nil =>
    intro K i hk _
    have : K = [] := by simpa using hk.symm
    subst this
    exact .inl ⟨by simp, by simp [Instr.findAsking]⟩
  | cons e es ih =>
    intro K i hk hpl
    cases K with
    | nil => simp at hk
    | cons q K =>
      simp only [List.map_cons, List.cons.injEq] at hk
      have heq := eqPK w p q hp (hpl q (by simp))
      rw [← hk.1] at heq
      by_cases h : p = q
      · subst h
        refine .inr ⟨by simp, 0, e, rfl, hk.1, ?_⟩
        simp [Instr.findAsking, heq]
      · rcases ih K (i + 1) hk.2 (fun q hq => hpl q (by simp [hq])) with ⟨h1, h2⟩ | ⟨h1, j, e', h2, h3, h4⟩
        · exact .inl ⟨by simp [h, h1], by simp [Instr.findAsking, heq, h, h2]⟩
        · refine .inr ⟨by simp [h1], j + 1, e', by simpa using h2, h3, ?_⟩
          simp [Instr.findAsking, heq, h, h4]; omega
/- Block B is a map that has just the places of K; with what they hold. -/
structure MapPl (w : World) (B : Nat) (L : List (PK × Value)) : Prop where
  ex : ∃ es clock, w.heap[B]? = some (.map es clock) ∧ es.toList.map (fun e => (e.key, e.val)) = L.map (fun p => (pkV p.1, p.2))
  pln : ∀ p ∈ L, Pln w p.1.1
theorem MapPl.lt {w : World} {B : Nat} {L : List (PK × Value)} (h : MapPl w B L) : B < w.heap.size := by
  obtain ⟨es, c, hb, _⟩ := h.ex
  exact lt_of_block hb
theorem Pln.keeps {w w' : World} {b : Nat} (h : Pln w b) (hb : w'.heap[b]? = w.heap[b]?) : Pln w' b := by
  obtain ⟨cs, e, h⟩ := h
  exact ⟨cs, e, hb.trans h⟩
theorem MapPl.made (w : World) : MapPl (w.alloc (.map #[] 0)) w.heap.size [] := ⟨⟨#[], 0, heap_at_alloc _ _ _ rfl, rfl⟩, fun p hp => by simp at hp⟩
def hasP (L : List (PK × Value)) (p : PK) : Bool := L.any fun q => decide (q.1 = p)
def valP (L : List (PK × Value)) (p : PK) (z : Value) : Value := ((L.find? fun q => decide (q.1 = p)).map (·.2)).getD z
theorem keys_of {es : Array MapEntry} {L : List (PK × Value)} (h : es.toList.map (fun e => (e.key, e.val)) = L.map (fun p => (pkV p.1, p.2))) : es.toList.map (·.key) = (L.map (·.1)).map pkV := by
  have := congrArg (List.map Prod.fst) h
  simpa [List.map_map, Function.comp_def] using this
set_option maxRecDepth 100000 in
theorem MapPl.find {w : World} {B : Nat} {L : List (PK × Value)} (h : MapPl w B L) {es : Array MapEntry} {clock : Nat} (hb : w.heap[B]? = some (.map es clock)) (p : PK) (hp : Pln w p.1) :
    (p ∉ L.map (·.1) ∧ (Instr.findKey 94 (pkV p) es.toList).run Tryz.prog w = .ok none w) ∨ (p ∈ L.map (·.1) ∧ ∃ j e, es.toList[j]? = some e ∧ e.key = pkV p ∧ (Instr.findKey 94 (pkV p) es.toList).run Tryz.prog w = .ok (some (j, e.val)) w) := by
  obtain ⟨es', clock', hb', hk⟩ := h.ex
  rw [hb] at hb'
  simp only [Option.some.injEq, Obj.map.injEq] at hb'
  obtain ⟨rfl, rfl⟩ := hb'
  rw [run_findKey_eq w plWide]
  have := find_run w p hp es.toList (L.map (·.1)) 0 (keys_of hk) (fun q hq => by obtain ⟨x, hx, rfl⟩ := List.mem_map.1 hq; exact h.pln x hx)
  simpa using this
/- A set of places. -/
def SetP (w : World) (B : Nat) (K : List PK) : Prop := MapPl w B (K.map fun p => (p, .agg #[]))
theorem setKeys (K : List PK) : (K.map fun p => (p, Value.agg #[])).map (·.1) = K := by simp [List.map_map, Function.comp_def]
theorem SetP.made (w : World) : SetP (w.alloc (.map #[] 0)) w.heap.size [] := MapPl.made w
theorem SetP.keeps {w w' : World} {B : Nat} {K : List PK} (h : SetP w B K) (hB : w'.heap[B]? = w.heap[B]?) (hK : ∀ p ∈ K, w'.heap[p.1]? = w.heap[p.1]?) : SetP w' B K := by
  obtain ⟨⟨es, c, hb, hk⟩, hp⟩ := h
  refine ⟨⟨es, c, hB.trans hb, hk⟩, fun p hp' => ?_⟩
  obtain ⟨q, hq, rfl⟩ := List.mem_map.1 hp'
  exact (hp _ hp').keeps (hK q hq)
theorem SetP.pl {w : World} {B : Nat} {K : List PK} (h : SetP w B K) {p : PK} (hp : p ∈ K) : Pln w p.1 := h.pln (p, .agg #[]) (List.mem_map.2 ⟨p, hp, rfl⟩)
theorem zeroUn (w : World) : (zeroValue 96).run Tryz.prog w = .ok (.agg #[]) w := by kernel_rfl
theorem SetP.val {es : Array MapEntry} {K : List PK} (h : es.toList.map (fun e => (e.key, e.val)) = (K.map fun p => (p, Value.agg #[])).map (fun p => (pkV p.1, p.2))) {e : MapEntry} (he : e ∈ es.toList) : e.val = .agg #[] := by
  have : (e.key, e.val) ∈ es.toList.map (fun e => (e.key, e.val)) := List.mem_map.2 ⟨e, he, rfl⟩
  rw [h] at this
  obtain ⟨q, hq, e1⟩ := List.mem_map.1 this
  obtain ⟨r, hr, rfl⟩ := List.mem_map.1 hq
  simp only [Prod.mk.injEq] at e1
  exact e1.2.symm
theorem SetP.asks {w : World} {B : Nat} {K : List PK} (h : SetP w B K) (p : PK) (hp : Pln w p.1) : (Instr.lookup 53 (.map (some B)) (pkV p) true).run Tryz.prog w = .ok (.tuple #[.agg #[], .bool (decide (p ∈ K))]) w := by
  obtain ⟨es, clock, hb, hk⟩ := h.ex
  have hf := h.find hb p hp
  rw [setKeys] at hf
  have hz := zeroUn w
  have hc := plCheck es.isEmpty p w
  simp only [Instr.lookup, Sem.run_bind, run_underlying Tryz.underlying53, Result.andThen_ok, MapKept.run_getObj_map hb, Sem.run_pure, hc]
  rcases hf with ⟨h1, h2⟩ | ⟨h1, j, e, h2, h3, h4⟩
  · simp [h2, h1, hz]
  · have := SetP.val hk (List.mem_of_getElem? h2)
    simp [h4, h1, this]
theorem sameBits_pk (p : PK) : Instr.sameBits 10000 (pkV p) (pkV p) = true := by
  unfold pkV
  simp [Instr.sameBits]
def addP (K : List PK) (p : PK) : List PK := if p ∈ K then K else K ++ [p]
theorem mem_addP {K : List PK} {p q : PK} : q ∈ addP K p ↔ q ∈ K ∨ q = p := by
  unfold addP
  split
  · rename_i h
    constructor
    · exact .inl
    · rintro (h' | rfl)
      · exact h'
      · exact h
  · simp
theorem grown_obj {w : World} {B : Nat} (o : Obj) : w.grownBy { w with heap := w.heap.setIfInBounds B o } (some B) :=
  ⟨rfl, rfl, rfl, by simp, fun b hb hn => by
    have : B ≠ b := fun e => hn (by rw [e])
    simp [this]⟩
theorem SetP.put {w : World} {B : Nat} {K : List PK} (h : SetP w B K) (p : PK) (hp : Pln w p.1) : ∃ w', (Instr.mapUpdate 53 (.map (some B)) (pkV p) (.agg #[])).run Tryz.prog w = .ok () w' ∧ SetP w' B (addP K p) ∧ w.grownBy w' (some B) := by
  obtain ⟨es, clock, hb, hk⟩ := h.ex
  have hf := h.find hb p hp
  rw [setKeys] at hf
  have hc := plCheck false p w
  have hlt := lt_of_block hb
  have hn : ∀ q : PK, Pln w q.1 → B ≠ q.1 := by
    rintro q ⟨cs, e, hq⟩ rfl
    rw [hb] at hq; cases hq
  have pl : ∀ (o : Obj) (q : PK), Pln w q.1 → Pln { w with heap := w.heap.setIfInBounds B o } q.1 := by
    intro o q hq
    have hne := hn q hq
    refine hq.keeps ?_
    simp [hne]
  rcases hf with ⟨h1, h2⟩ | ⟨h1, j, e, h2, h3, h4⟩
  · refine ⟨{ w with heap := w.heap.setIfInBounds B (.map (es.push { key := pkV p, val := .agg #[], born := clock }) (clock + 1)) }, ?_, ⟨⟨es.push { key := pkV p, val := .agg #[], born := clock }, clock + 1, ?_, ?_⟩, ?_⟩, grown_obj _⟩
    · simp only [Instr.mapUpdate, Sem.run_bind, run_underlying Tryz.underlying53, Result.andThen_ok, MapKept.run_getObj_map hb, hc, h2, MapKept.run_setObj_map _ hb]
    · simp [hlt]
    · simp [addP, h1] at hk ⊢
      exact hk
    · intro q hq
      obtain ⟨r, hr, rfl⟩ := List.mem_map.1 hq
      rcases mem_addP.1 hr with hr | rfl
      · exact pl _ _ (h.pl hr)
      · exact pl _ _ hp
  · have hv := SetP.val hk (List.mem_of_getElem? h2)
    have hj : es[j]? = some e := by simpa using h2
    refine ⟨{ w with heap := w.heap.setIfInBounds B (.map (es.modify j fun e => { e with key := pkV p, val := .agg #[] }) clock) }, ?_, ⟨⟨es.modify j fun e => { e with key := pkV p, val := .agg #[] }, clock, ?_, ?_⟩, ?_⟩, grown_obj _⟩
    · simp only [Instr.mapUpdate, Sem.run_bind, run_underlying Tryz.underlying53, Result.andThen_ok, MapKept.run_getObj_map hb, hc, h4, hj, Option.map_some, Option.getD_some, h3, Instr.keyThatStays, sameBits_pk, if_true, Sem.run_pure, MapKept.run_setObj_map _ hb]
    · simp [hlt]
    · have e0 : addP K p = K := by simp [addP, h1]
      rw [e0, ← hk]
      refine List.ext_getElem? fun i => ?_
      simp only [List.getElem?_map, Array.getElem?_toList, Array.getElem?_modify]
      by_cases hi : j = i
      · subst hi
        simp [hj, h3, hv]
      · simp [hi]
    · intro q hq
      obtain ⟨r, hr, rfl⟩ := List.mem_map.1 hq
      rcases mem_addP.1 hr with hr | rfl
      · exact pl _ _ (h.pl hr)
      · exact pl _ _ hp
end Go.Proofs.YtikejmokejghcaaGreatDoor
