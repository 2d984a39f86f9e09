/- The fewest pairs, step by step: plain. -/
import Derived.Test.YtilapnfdijjobaaDoorBetween
import Derived.Test.YtilapnfdijjobaaDoorForC
namespace Go.Proofs.YtilapnfdijjobaaDoor
open Go.RowKit

def bothB (ls : List ByteArray) (ps : List (ByteArray × ByteArray)) : Bool := ls.any fun a => ls.any fun b => Act.mutual2 ls ps a b
theorem both_iff (ls : List ByteArray) (ps : List (ByteArray × ByteArray)) : bothB ls ps = true ↔ Act.Both ls ps := by simp [bothB, Act.Both]
def leastE (ls : List ByteArray) (ps : List (ByteArray × ByteArray)) : Int := if checkF ls ps = 0 then (if bothB ls ps = true then 4 else 0) else checkF ls ps
def leastV (ls : List ByteArray) (ps : List (ByteArray × ByteArray)) : List (ByteArray × ByteArray) := if leastE ls ps = 0 then Act.leastF ls ps else []
def prC (l : List (ByteArray × ByteArray)) : List Value := l.flatMap fun p => [.string p.1, .string p.2]

theorem acts_at {ls : List ByteArray} {ps : List (ByteArray × ByteArray)} (hr : Act.Right ls ps) {k j : Nat} (hk : k < ls.length) (hj : j < ls.length) : Act.acts ls ps ls[k] ls[j] = Act.whole ls ps k j := by
  unfold Act.acts; rw [Act.pos_at hr.nd hk, Act.pos_at hr.nd hj]
theorem ne_at {ls : List ByteArray} {ps : List (ByteArray × ByteArray)} (hr : Act.Right ls ps) {k j : Nat} (hk : k < ls.length) (hj : j < ls.length) (h : k ≠ j) : ls[k] ≠ ls[j] := fun e => h ((List.getElem_inj hr.nd).mp e)
theorem betw_mid {ls : List ByteArray} {ps : List (ByteArray × ByteArray)} (hr : Act.Right ls ps) (h6 : ls.length ≤ 6) {k j : Nat} (hk : k < ls.length) (hj : j < ls.length) : betwAll (Act.whole ls ps) k j 6 = !(Act.mid ls ps ls[k] ls[j]).isEmpty := by
  rw [Bool.eq_iff_iff]
  simp only [betwAll, List.any_eq_true, List.mem_range, betw, Bool.and_eq_true, decide_eq_true_eq, Bool.not_eq_true', List.isEmpty_eq_false_iff_exists_mem]
  constructor
  · rintro ⟨c, _, ⟨⟨h1, h2⟩, h3⟩, h4⟩
    have hc := (Act.whole_lt ls ps hr h3).2
    refine ⟨ls[c], Act.mid_mem.2 ⟨List.getElem_mem hc, ne_at hr hc hk h1, ne_at hr hc hj h2, ?_, ?_⟩⟩
    · rw [acts_at hr hk hc]; exact h3
    · rw [acts_at hr hc hj]; exact h4
  · rintro ⟨z, hz⟩
    obtain ⟨g1, g2, g3, g4, g5⟩ := Act.mid_mem.1 hz
    have hc := Act.pos_lt g1
    refine ⟨Act.pos ls z, by omega, ⟨⟨?_, ?_⟩, ?_⟩, ?_⟩
    · intro e; apply g2; rw [← Act.at_pos g1]; simp only [e]
    · intro e; apply g3; rw [← Act.at_pos g1]; simp only [e]
    · unfold Act.acts at g4; rwa [Act.pos_at hr.nd hk] at g4
    · unfold Act.acts at g5; rwa [Act.pos_at hr.nd hj] at g5
theorem row_step (ls : List ByteArray) (ps : List (ByteArray × ByteArray)) (x : ByteArray) {j : Nat} (hj : j < ls.length) : Act.row ls ps x (ls.take (j + 1)) = Act.row ls ps x (ls.take j) ++ (if Act.cover ls ps x ls[j] = true then [(x, ls[j])] else []) := by
  rw [List.take_succ_eq_append_getElem hj]
  simp only [Act.row, List.filter_append, List.map_append]
  congr 1
  cases hv : Act.cover ls ps x ls[j] <;> simp [hv]
theorem flat_step (ls : List ByteArray) (ps : List (ByteArray × ByteArray)) {k : Nat} (hk : k < ls.length) : (ls.take (k + 1)).flatMap (fun a => Act.row ls ps a ls) = (ls.take k).flatMap (fun a => Act.row ls ps a ls) ++ Act.row ls ps ls[k] ls := by
  rw [List.take_succ_eq_append_getElem hk, List.flatMap_append]
  simp only [List.flatMap_cons, List.flatMap_nil, List.append_nil]
/- What one place says. -/
theorem at_same {ls : List ByteArray} (ps : List (ByteArray × ByteArray)) {k : Nat} (hk : k < ls.length) : Act.cover ls ps ls[k] ls[k] = false ∧ Act.mutual2 ls ps ls[k] ls[k] = false := by simp [Act.cover, Act.mutual2]
theorem at_none {ls : List ByteArray} {ps : List (ByteArray × ByteArray)} (hr : Act.Right ls ps) {k j : Nat} (hk : k < ls.length) (hj : j < ls.length) (h : Act.whole ls ps k j = false) : Act.cover ls ps ls[k] ls[j] = false ∧ Act.mutual2 ls ps ls[k] ls[j] = false := by
  simp [Act.cover, Act.mutual2, acts_at hr hk hj, h]
theorem at_both {ls : List ByteArray} {ps : List (ByteArray × ByteArray)} (hr : Act.Right ls ps) {k j : Nat} (hk : k < ls.length) (hj : j < ls.length) (hne : k ≠ j) (h : Act.whole ls ps k j = true) (h' : Act.whole ls ps j k = true) : Act.Both ls ps :=
  ⟨ls[k], List.getElem_mem hk, ls[j], List.getElem_mem hj, by simp [Act.mutual2, acts_at hr hk hj, acts_at hr hj hk, h, h', ne_at hr hk hj hne]⟩
theorem at_one {ls : List ByteArray} {ps : List (ByteArray × ByteArray)} (hr : Act.Right ls ps) (h6 : ls.length ≤ 6) {k j : Nat} (hk : k < ls.length) (hj : j < ls.length) (hne : k ≠ j) (h : Act.whole ls ps k j = true) (h' : Act.whole ls ps j k = false) : Act.cover ls ps ls[k] ls[j] = !betwAll (Act.whole ls ps) k j 6 ∧ Act.mutual2 ls ps ls[k] ls[j] = false := by
  refine ⟨?_, by simp [Act.mutual2, acts_at hr hj hk, h']⟩
  rw [betw_mid hr h6 hk hj]
  simp [Act.cover, acts_at hr hk hj, h, ne_at hr hk hj hne]
def NoMut (ls : List ByteArray) (ps : List (ByteArray × ByteArray)) (k : Nat) : Prop := ∀ a ∈ ls.take k, ∀ b ∈ ls, Act.mutual2 ls ps a b = false
def NoMut2 (ls : List ByteArray) (ps : List (ByteArray × ByteArray)) (x : ByteArray) (j : Nat) : Prop := ∀ b ∈ ls.take j, Act.mutual2 ls ps x b = false
theorem noMut2_step {ls : List ByteArray} {ps : List (ByteArray × ByteArray)} {x : ByteArray} {j : Nat} (hj : j < ls.length) (h : NoMut2 ls ps x j) (h' : Act.mutual2 ls ps x ls[j] = false) : NoMut2 ls ps x (j + 1) := by
  intro b hb
  rw [List.take_succ_eq_append_getElem hj, List.mem_append, List.mem_singleton] at hb
  rcases hb with hb | rfl
  · exact h b hb
  · exact h'
theorem noMut_step {ls : List ByteArray} {ps : List (ByteArray × ByteArray)} {k : Nat} (hk : k < ls.length) (h : NoMut ls ps k) (h' : NoMut2 ls ps ls[k] ls.length) : NoMut ls ps (k + 1) := by
  intro a ha b hb
  rw [List.take_succ_eq_append_getElem hk, List.mem_append, List.mem_singleton] at ha
  rcases ha with ha | rfl
  · exact h a ha b hb
  · exact h' b (by rw [List.take_length]; exact hb)
theorem noMut_end {ls : List ByteArray} {ps : List (ByteArray × ByteArray)} (h : NoMut ls ps ls.length) : bothB ls ps = false := by
  rw [Bool.eq_false_iff, ne_eq, both_iff]
  rintro ⟨a, ha, b, hb, hm⟩
  rw [h a (by rw [List.take_length]; exact ha) b hb] at hm
  cases hm

/- What Least's loops hold. -/
structure LeastSt (w wr : World) (v : Value) (T : Nat → Nat → Bool) (l : List (ByteArray × ByteArray)) (B : Nat) : Prop where
  bel : Below w.heap.size w wr
  tab : TabAt wr B T
  low : w.heap.size ≤ B
  own : wr.ownsRow (B + 1) 48 2 v l.length (prC l)
  big : B + 1 ≤ wr.heap.size
theorem LeastSt.later {w wr w1 : World} {v : Value} {T : Nat → Nat → Bool} {l : List (ByteArray × ByteArray)} {B : Nat} (h : LeastSt w wr v T l B) (hb : Below wr.heap.size wr w1) : LeastSt w w1 v T l B := by
  have h1 := hb.size
  have h3 := h.big
  exact ⟨h.bel.trans (hb.mono (by have := h.bel.size; omega)), (hb.block _ (by omega)).trans h.tab, h.low, own_below h.own hb, by omega⟩
theorem LeastSt.step {w wr w2 : World} {v v' : Value} {T : Nat → Nat → Bool} {l : List (ByteArray × ByteArray)} {B : Nat} {s t : ByteArray} {o : Obj} (h : LeastSt w wr v T l B) (hown : w2.ownsRow (B + 1) 48 2 v' (l.length + 1) (prC l ++ [.string s, .string t])) (hgr : (wr.alloc o).grownBy w2 v.ownBlock) : LeastSt w w2 v' T (l ++ [(s, t)]) B := by
  have hz : (wr.alloc o).heap.size = wr.heap.size + 1 := by simp
  have h2 := hgr.size
  have h3 := h.big
  have hlow : ∀ b x, b < B + 1 → wr.heap[b]? = some x → w2.heap[b]? = some x := fun b x hlt hx => by
    rw [hgr.block b (by omega) ?_]
    · exact heap_past_alloc hx
    · intro he
      have := (h.own.lt _ he.symm).1
      omega
  refine ⟨?_, hlow _ _ (by omega) h.tab, h.low, ?_, by omega⟩
  · exact (h.bel.alloc (by have := h.bel.size; omega) _).grown hgr (by have := h.low; omega) (fun k he => by have := (h.own.lt _ he).1; have := h.low; omega)
  · simpa [prC] using hown
theorem two_new (w : World) (a b : Value) (e : TypeId) : ∀ j u, [a, b][j]? = some u → (w.alloc (.cells #[a, b] e)).cell? ((⟨w.heap.size, 0, none⟩ : Addr).add j) = some u := by
  intro j u hj
  have e0 : (w.alloc (.cells #[a, b] e)).cell? ⟨w.heap.size, j, none⟩ = (#[a, b] : Array Value)[j]? := World.cell?_alloc_at _ _ _ _ (by simp)
  have e1 : (⟨w.heap.size, 0, none⟩ : Addr).add j = ⟨w.heap.size, j, none⟩ := by simp [Addr.add]; intro h; exact h.symm
  rw [e1, e0]; simpa using hj
theorem load_tab {w : World} {B : Nat} {T : Nat → Nat → Bool} (h : TabAt w B T) : (loadCellsFrom ⟨B, 0, none⟩ 0 36 #[]).run Tryd.prog w = .ok (tabC T) w := by
  have := run_loadCells_list (P := Tryd.prog) w ⟨B, 0, none⟩ (tabC T).toList (fun j v hv => by
    have hadd : (⟨B, 0, none⟩ : Addr).add j = ⟨B, j, none⟩ := by unfold Addr.add; split <;> simp_all
    rw [hadd, cell_of_row _ _ j _ _ (0, 0) h]
    simpa using hv)
  have e : (tabC T).toList.length = 36 := by simp [tabC]
  rw [e] at this
  simpa [loadCells] using this
theorem Tryd.infoPair : (Tryd.prog.info? 48).map (fun i => (i.zero, i.size, i.bytes)) = some (some (.agg #[.string ⟨#[]⟩, .string ⟨#[]⟩]), 2, 32) := by kernel_rfl
end Go.Proofs.YtilapnfdijjobaaDoor
