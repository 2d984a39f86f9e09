/- The table of whole, as it is filled: plain, and in memory. -/
import Derived.Test.YtfhpmnghakhlkaaDoorAct
import Derived.Test.YtfhpmnghakhlkaaDoorGrow
import Derived.WalkKit
import Derived.ProofKit
namespace Go.Proofs.YtfhpmnghakhlkaaDoor
open Go.RowKit

namespace Act
variable {α : Type} [DecidableEq α]
def upd (T : Nat → Nat → Bool) (x y : Nat) (v : Bool) (a c : Nat) : Bool := if a = x ∧ c = y then v else T a c
def diag (k x y : Nat) : Bool := decide (x = y ∧ x < k)
theorem diag_step (k : Nat) : upd (diag k) k k true = diag (k + 1) := by
  funext x y
  simp only [upd, diag]
  by_cases h : x = k ∧ y = k
  · obtain ⟨rfl, rfl⟩ := h; simp
  · rw [if_neg h, Bool.eq_iff_iff]; simp only [decide_eq_true_eq]; omega
def tabE (ls : List α) (ps : List (α × α)) (n j x y : Nat) : Bool := diag n x y || edge ls (ps.take j) x y
theorem tabE_zero (ls : List α) (ps : List (α × α)) (n : Nat) : tabE ls ps n 0 = diag n := by funext x y; simp [tabE, edge]
theorem tabE_all (ls : List α) (ps : List (α × α)) (n j : Nat) (h : ps.length ≤ j) : tabE ls ps n j = D (edge ls ps) n 0 := by
  funext x y
  simp only [tabE, List.take_of_length_le h, D, diag]
theorem tabE_step (ls : List α) (ps : List (α × α)) (n : Nat) {j : Nat} (hj : j < ps.length) {x y : Nat} (hx : pos ls ps[j].1 = x) (hy : pos ls ps[j].2 = y) : upd (tabE ls ps n j) x y true = tabE ls ps n (j + 1) := by
  funext a c
  simp only [upd, tabE, edge, List.take_succ_eq_append_getElem hj, List.any_append, List.any_cons, List.any_nil, Bool.or_false, hx, hy]
  by_cases h : a = x ∧ c = y
  · obtain ⟨rfl, rfl⟩ := h; simp
  · rw [if_neg h]
    have : (x == a && y == c) = false := by
      rw [Bool.eq_false_iff]; simp only [ne_eq, Bool.and_eq_true, beq_iff_eq]; omega
    rw [this]; simp
/- In round k, at the place i, j. -/
def mix (E : Nat → Nat → Bool) (n k i j x y : Nat) : Bool := if x < i ∨ (x = i ∧ y < j) then D E n (k + 1) x y else D E n k x y
variable (E : Nat → Nat → Bool) (n : Nat)
theorem mix_ij (k i j : Nat) : mix E n k i j i j = D E n k i j := by simp [mix]
theorem mix_ik (k i j : Nat) : mix E n k i j i k = D E n k i k := by simp [mix, D_col]
theorem mix_kj (k i j : Nat) : mix E n k i j k j = D E n k k j := by simp [mix, D_row]
theorem mix_step (k i j : Nat) : upd (mix E n k i j) i j (D E n k i j || (D E n k i k && D E n k k j)) = mix E n k i (j + 1) := by
  funext x y
  by_cases h : x = i ∧ y = j
  · obtain ⟨rfl, rfl⟩ := h; simp [upd, mix, D]
  · simp only [upd, if_neg h, mix]
    have : (x < i ∨ x = i ∧ y < j) ↔ (x < i ∨ x = i ∧ y < j + 1) := by omega
    simp only [this]
theorem mix_zero (k : Nat) : mix E n k 0 0 = D E n k := by funext x y; simp [mix]
theorem D_out {ls : List α} {ps : List (α × α)} (hr : Right ls ps) (k : Nat) {x y : Nat} (h : ls.length ≤ x ∨ ls.length ≤ y) : D (edge ls ps) ls.length k x y = false := by
  cases hd : D (edge ls ps) ls.length k x y with
  | false => rfl
  | true => obtain ⟨h1, h2, _⟩ := D_in ls ps hr k x y hd; omega
theorem mix_row {ls : List α} {ps : List (α × α)} (hr : Right ls ps) (k i : Nat) : mix (edge ls ps) ls.length k i ls.length = mix (edge ls ps) ls.length k (i + 1) 0 := by
  funext x y
  simp only [mix]
  by_cases hy : ls.length ≤ y
  · rw [D_out hr _ (.inr hy), D_out hr _ (.inr hy)]; simp
  · have : (x < i ∨ x = i ∧ y < ls.length) ↔ (x < i + 1 ∨ x = i + 1 ∧ y < 0) := by omega
    simp only [this]
theorem mix_all {ls : List α} {ps : List (α × α)} (hr : Right ls ps) (k : Nat) : mix (edge ls ps) ls.length k ls.length 0 = D (edge ls ps) ls.length (k + 1) := by
  funext x y
  simp only [mix]
  by_cases hx : ls.length ≤ x
  · rw [D_out hr _ (.inl hx), D_out hr _ (.inl hx)]; simp
  · rw [if_pos (by omega)]
end Act

def tabC (T : Nat → Nat → Bool) : Array Value := ((List.range 36).map fun k => Value.bool (T (k / 6) (k % 6))).toArray
theorem tabC_size (T : Nat → Nat → Bool) : (tabC T).size = 36 := by simp [tabC]
theorem tabC_get (T : Nat → Nat → Bool) {x y : Nat} (hx : x < 6) (hy : y < 6) : (tabC T)[x * 6 + y]? = some (.bool (T x y)) := by
  have h : x * 6 + y < 36 := by omega
  have e1 : (x * 6 + y) / 6 = x := by omega
  have e2 : (x * 6 + y) % 6 = y := by omega
  simp [tabC, h, e1, e2]
theorem tabC_set (T : Nat → Nat → Bool) {x y : Nat} (_hx : x < 6) (hy : y < 6) (v : Bool) : (tabC T).setIfInBounds (x * 6 + y) (.bool v) = tabC (Act.upd T x y v) := by
  apply Array.ext
  · simp [tabC]
  · intro k h1 h2
    have hk : k < 36 := by simpa [tabC] using h2
    rw [Array.getElem_setIfInBounds]
    · by_cases e : x * 6 + y = k
      · subst e
        have e1 : (x * 6 + y) / 6 = x := by omega
        have e2 : (x * 6 + y) % 6 = y := by omega
        simp [tabC, Act.upd, e1, e2]
      · have : ¬ (k / 6 = x ∧ k % 6 = y) := by omega
        simp [tabC, Act.upd, e, this]
    · simpa [tabC] using hk
theorem tabC_none : tabC (fun _ _ => false) = #[.bool false, .bool false, .bool false, .bool false, .bool false, .bool false, .bool false, .bool false, .bool false, .bool false, .bool false, .bool false, .bool false, .bool false, .bool false, .bool false, .bool false, .bool false, .bool false, .bool false, .bool false, .bool false, .bool false, .bool false, .bool false, .bool false, .bool false, .bool false, .bool false, .bool false, .bool false, .bool false, .bool false, .bool false, .bool false, .bool false] := by kernel_rfl
def TabAt (w : World) (q : Nat) (T : Nat → Nat → Bool) : Prop := w.heap[q]? = some (.cells (tabC T) 95 (0, 0))
theorem TabAt.cell {w : World} {q : Nat} {T : Nat → Nat → Bool} (h : TabAt w q T) {x y : Nat} (hx : x < 6) (hy : y < 6) : w.cell? ⟨q, x * 6 + y, none⟩ = some (.bool (T x y)) := by
  unfold TabAt at h
  simp [World.cell?, h]
  rw [tabC_get T hx hy]
theorem TabAt.free {w : World} {q : Nat} {T : Nat → Nat → Bool} (h : TabAt w q T) (x : Nat) : w.frozen? ⟨q, x, none⟩ = false := by
  unfold TabAt at h
  simp [World.frozen?, h]
theorem TabAt.set {w : World} {q : Nat} {T : Nat → Nat → Bool} (h : TabAt w q T) {x y : Nat} (hx : x < 6) (hy : y < 6) (v : Bool) : TabAt (w.setCell ⟨q, x * 6 + y, none⟩ (.bool v)) q (Act.upd T x y v) := by
  unfold TabAt at h ⊢
  rw [heap_setCell_same w q _ _ _ _ h, tabC_set T hx hy]
/- The state of whole: its result's block, its table's. -/
structure TabSt (w wr : World) (T : Nat → Nat → Bool) : Prop where
  bel : Below w.heap.size w wr
  res : TabAt wr w.heap.size (fun _ _ => false)
  tab : TabAt wr (w.heap.size + 1) T
theorem TabSt.set {w wr : World} {T : Nat → Nat → Bool} (h : TabSt w wr T) {x y : Nat} (hx : x < 6) (hy : y < 6) (v : Bool) : TabSt w (wr.setCell ⟨w.heap.size + 1, x * 6 + y, none⟩ (.bool v)) (Act.upd T x y v) :=
  ⟨h.bel.setCell (by simp) _, heap_past_set h.res (by simp), h.tab.set hx hy v⟩
theorem TabSt.alloc {w wr : World} {T : Nat → Nat → Bool} (h : TabSt w wr T) (o : Obj) : TabSt w (wr.alloc o) T :=
  ⟨h.bel.alloc h.bel.size o, heap_past_alloc h.res, heap_past_alloc h.tab⟩
theorem below_setRow {B : Nat} {a w : World} (h : Below B a w) {g : Nat} (hg : B ≤ g) (c : Array Value) : Below B a (w.setRow g c) :=
  ⟨h.os, h.tape, h.output, by simpa [World.setRow] using h.size, fun k hk => by
    rw [← h.block k hk]
    simp only [World.setRow]
    rw [Array.getElem?_modify, if_neg (by omega)]⟩
theorem tabC_one (T : Nat → Nat → Bool) : (tabC T).all (·.oneCell') = true := by
  rw [Array.all_eq_true_iff_forall_mem]
  intro v hv
  simp only [tabC, List.mem_toArray, List.mem_map] at hv
  obtain ⟨_, _, rfl⟩ := hv
  rfl
theorem TabSt.drew {w wr : World} {T : Nat → Nat → Bool} (h : TabSt w wr T) : TabSt w wr.drew T := ⟨⟨h.bel.os, h.bel.tape, h.bel.output, h.bel.size, h.bel.block⟩, h.res, h.tab⟩
theorem TabSt.drewN {w wr : World} {T : Nat → Nat → Bool} (h : TabSt w wr T) (n : Nat) : TabSt w (wr.drewN n) T := ⟨⟨h.bel.os, h.bel.tape, h.bel.output, h.bel.size, h.bel.block⟩, h.res, h.tab⟩
end Go.Proofs.YtfhpmnghakhlkaaDoor
