/- Labels as the program reckons them: whom a policy lets, what it covers, what may go where, as Bools; and what these say in plain words. -/
import Derived.Test.YtfhpmnghakhlkaaDoorLab
namespace Go.Proofs.YtfhpmnghakhlkaaDoor
namespace Lab
open Act (Way)
variable {α : Type} [DecidableEq α]

def letsB (ls : List α) (ps : List (α × α)) (p : α × List α) (s : α) : Bool := Act.acts ls ps s p.1 || p.2.any fun r => Act.acts ls ps s r
def coversB (ls : List α) (ps : List (α × α)) (q p : α × List α) : Bool := Act.acts ls ps q.1 p.1 && !(q.2.any fun r => !letsB ls ps p r)
def coveredB (ls : List α) (ps : List (α × α)) (l : List (α × List α)) (p : α × List α) : Bool := l.any fun q => coversB ls ps q p
def flowsB (ls : List α) (ps : List (α × α)) (a b : List (α × List α)) : Bool := !(a.any fun p => !coveredB ls ps b p)
def readsB (ls : List α) (ps : List (α × α)) (x : List (α × List α)) (c : α) : Bool := !(x.any fun p => !letsB ls ps p c)
def readsF (ls : List α) (ps : List (α × α)) (x : List (α × List α)) : List α := ls.filter fun c => readsB ls ps x c
/- All names are chiefs. -/
def Of (ls : List α) (p : α × List α) : Prop := p.1 ∈ ls ∧ ∀ r ∈ p.2, r ∈ ls
def OfL (ls : List α) (x : List (α × List α)) : Prop := ∀ p ∈ x, Of ls p

variable {ls : List α} {ps : List (α × α)}
theorem acts_mem (hr : Act.Right ls ps) {a b : α} (h : Act.acts ls ps a b = true) : a ∈ ls ∧ b ∈ ls := by
  obtain ⟨h1, h2⟩ := Act.whole_lt ls ps hr h
  exact ⟨List.idxOf_lt_length_iff.1 h1, List.idxOf_lt_length_iff.1 h2⟩
theorem lets_iff (hr : Act.Right ls ps) {p : α × List α} (hp : Of ls p) {s : α} (hs : s ∈ ls) : letsB ls ps p s = true ↔ lets ps p s := by
  simp only [letsB, lets, Bool.or_eq_true, List.any_eq_true, Act.acts_iff hr hs hp.1]
  constructor
  · rintro (h | ⟨r, h1, h2⟩)
    · exact .inl h
    · exact .inr ⟨r, h1, (Act.acts_iff hr hs (hp.2 r h1)).1 h2⟩
  · rintro (h | ⟨r, h1, h2⟩)
    · exact .inl h
    · exact .inr ⟨r, h1, (Act.acts_iff hr hs (hp.2 r h1)).2 h2⟩
theorem covers_iff (hr : Act.Right ls ps) {q p : α × List α} (hq : Of ls q) (hp : Of ls p) : coversB ls ps q p = true ↔ covers ps q p := by
  simp only [coversB, covers, Bool.and_eq_true, Act.acts_iff hr hq.1 hp.1, Bool.not_eq_true', List.any_eq_false]
  constructor
  · rintro ⟨h1, h2⟩
    exact ⟨h1, fun r hr' => (lets_iff hr hp (hq.2 r hr')).1 (by simpa using h2 r hr')⟩
  · rintro ⟨h1, h2⟩
    exact ⟨h1, fun r hr' => by simpa using (lets_iff hr hp (hq.2 r hr')).2 (h2 r hr')⟩
theorem covered_iff (hr : Act.Right ls ps) {l : List (α × List α)} {p : α × List α} (hl : OfL ls l) (hp : Of ls p) : coveredB ls ps l p = true ↔ ∃ q ∈ l, covers ps q p := by
  simp only [coveredB, List.any_eq_true]
  constructor
  · rintro ⟨q, h1, h2⟩; exact ⟨q, h1, (covers_iff hr (hl q h1) hp).1 h2⟩
  · rintro ⟨q, h1, h2⟩; exact ⟨q, h1, (covers_iff hr (hl q h1) hp).2 h2⟩
theorem flows_iff (hr : Act.Right ls ps) {a b : List (α × List α)} (ha : OfL ls a) (hb : OfL ls b) : flowsB ls ps a b = true ↔ mayGo ps a b := by
  simp only [flowsB, mayGo, Bool.not_eq_true', List.any_eq_false]
  constructor
  · intro h q hq
    exact (covered_iff hr hb (ha q hq)).1 (by simpa using h q hq)
  · intro h q hq
    simpa using (covered_iff hr hb (ha q hq)).2 (h q hq)
theorem reads_iff (hr : Act.Right ls ps) {x : List (α × List α)} (hx : OfL ls x) {c : α} (hc : c ∈ ls) : readsB ls ps x c = true ↔ reads ps x c := by
  simp only [readsB, reads, Bool.not_eq_true', List.any_eq_false]
  constructor
  · intro h p hp
    exact (lets_iff hr (hx p hp) hc).1 (by simpa using h p hp)
  · intro h p hp
    simpa using (lets_iff hr (hx p hp) hc).2 (h p hp)
theorem readsF_mem (hr : Act.Right ls ps) {x : List (α × List α)} (hx : OfL ls x) {c : α} : c ∈ readsF ls ps x ↔ c ∈ ls ∧ reads ps x c := by
  simp only [readsF, List.mem_filter]
  constructor
  · rintro ⟨h, g⟩; exact ⟨h, (reads_iff hr hx h).1 g⟩
  · rintro ⟨h, g⟩; exact ⟨h, (reads_iff hr hx h).2 g⟩
end Lab
end Go.Proofs.YtfhpmnghakhlkaaDoor
