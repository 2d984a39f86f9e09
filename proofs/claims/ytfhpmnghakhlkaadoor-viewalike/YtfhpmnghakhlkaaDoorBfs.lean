/- Going from one to the next: plain. -/
import Derived.Test.YtfhpmnghakhlkaaDoorAct
namespace Go.Proofs.YtfhpmnghakhlkaaDoor
namespace Act
variable {α : Type} [DecidableEq α]

/- What has been seen, the first k of it looked at. -/
structure Bfs (ps : List (α × α)) (x y : α) (seen : List α) (k : Nat) : Prop where
  nd : seen.Nodup
  mem : x ∈ seen
  way : ∀ s ∈ seen, Way ps x s
  sub : ∀ s ∈ seen, s ∈ x :: ps.map (·.2)
  le : k ≤ seen.length
  closed : ∀ i s, i < k → seen[i]? = some s → ∀ p ∈ ps, p.1 = s → p.2 ∈ seen
  noty : ∀ i s, i < k → seen[i]? = some s → s ≠ y
omit [DecidableEq α] in
theorem Bfs.start (ps : List (α × α)) (x y : α) : Bfs ps x y [x] 0 :=
  ⟨by simp, by simp, fun s hs => by simp at hs; subst hs; exact .refl _, fun s hs => by simp at hs; simp [hs], by simp, fun i s h => by omega, fun i s h => by omega⟩
omit [DecidableEq α] in
theorem Bfs.short {ps : List (α × α)} {x y : α} {seen : List α} {k : Nat} (h : Bfs ps x y seen k) : seen.length ≤ ps.length + 1 := by
  have := List.Nodup.length_le_of_subset h.nd h.sub
  simpa using this
omit [DecidableEq α] in
theorem way_in {ps : List (α × α)} {seen : List α} (hc : ∀ s ∈ seen, ∀ p ∈ ps, p.1 = s → p.2 ∈ seen) {a b : α} (h : Way ps a b) (ha : a ∈ seen) : b ∈ seen := by
  induction h with
  | refl => exact ha
  | step e _ ih => exact ih (hc _ ha _ e rfl)
omit [DecidableEq α] in
theorem Bfs.none {ps : List (α × α)} {x y : α} {seen : List α} {k : Nat} (h : Bfs ps x y seen k) (hk : ¬ k < seen.length) : ¬ Way ps x y := by
  intro w
  have hc : ∀ s ∈ seen, ∀ p ∈ ps, p.1 = s → p.2 ∈ seen := by
    intro s hs
    obtain ⟨i, hi, e⟩ := List.getElem_of_mem hs
    exact h.closed i s (by omega) (by rw [List.getElem?_eq_getElem hi, e])
  have hy := way_in hc w h.mem
  obtain ⟨i, hi, e⟩ := List.getElem_of_mem hy
  exact h.noty i y (by omega) (by rw [List.getElem?_eq_getElem hi, e]) rfl
/- The one at place k, whose pairs up to j have been gone. -/
structure Bfs2 (ps : List (α × α)) (x y : α) (seen : List α) (k : Nat) (s : α) (j : Nat) : Prop where
  bfs : Bfs ps x y seen k
  at_k : seen[k]? = some s
  ne : s ≠ y
  done : ∀ p ∈ ps.take j, p.1 = s → p.2 ∈ seen
omit [DecidableEq α] in
theorem Bfs2.start {ps : List (α × α)} {x y s : α} {seen : List α} {k : Nat} (h : Bfs ps x y seen k) (hs : seen[k]? = some s) (hn : s ≠ y) : Bfs2 ps x y seen k s 0 := ⟨h, hs, hn, fun p hp => by simp at hp⟩
omit [DecidableEq α] in
theorem Bfs2.skip {ps : List (α × α)} {x y s : α} {seen : List α} {k j : Nat} (h : Bfs2 ps x y seen k s j) (hj : j < ps.length) (hs : ps[j].1 = s → ps[j].2 ∈ seen) : Bfs2 ps x y seen k s (j + 1) := by
  refine ⟨h.bfs, h.at_k, h.ne, fun p hp => ?_⟩
  rw [List.take_succ_eq_append_getElem hj, List.mem_append, List.mem_singleton] at hp
  rcases hp with hp | rfl
  · exact h.done p hp
  · exact hs
omit [DecidableEq α] in
theorem Bfs2.add {ps : List (α × α)} {x y s : α} {seen : List α} {k j : Nat} (h : Bfs2 ps x y seen k s j) (hj : j < ps.length) (h1 : ps[j].1 = s) (h2 : ps[j].2 ∉ seen) : Bfs2 ps x y (seen ++ [ps[j].2]) k s (j + 1) := by
  have hb := h.bfs
  have hks : k < seen.length := (List.getElem?_eq_some_iff.1 h.at_k).1
  have hpre : ∀ i, i < seen.length → (seen ++ [ps[j].2])[i]? = seen[i]? := fun i hi => by rw [List.getElem?_append_left hi]
  have hms : s ∈ seen := List.mem_of_getElem? h.at_k
  refine ⟨⟨?_, List.mem_append_left _ hb.mem, ?_, ?_, by simp; omega, ?_, ?_⟩, by rw [hpre k hks]; exact h.at_k, h.ne, ?_⟩
  · rw [List.nodup_append]
    refine ⟨hb.nd, by simp, ?_⟩
    intro a ha b hb' e
    simp at hb'; subst hb'; subst e; exact h2 ha
  · intro t ht
    rcases List.mem_append.1 ht with ht | ht
    · exact hb.way t ht
    · simp at ht; subst ht
      refine (hb.way s hms).trans (.one ?_)
      have := List.getElem_mem hj
      rw [← h1]; exact this
  · intro t ht
    rcases List.mem_append.1 ht with ht | ht
    · exact hb.sub t ht
    · simp at ht; subst ht
      exact List.mem_cons_of_mem _ (List.mem_map.2 ⟨_, List.getElem_mem hj, rfl⟩)
  · intro i t hi hit p hp e
    rw [hpre i (by have := hb.le; omega)] at hit
    exact List.mem_append_left _ (hb.closed i t hi hit p hp e)
  · intro i t hi hit
    rw [hpre i (by have := hb.le; omega)] at hit
    exact hb.noty i t hi hit
  · intro p hp e
    rw [List.take_succ_eq_append_getElem hj, List.mem_append, List.mem_singleton] at hp
    rcases hp with hp | rfl
    · exact List.mem_append_left _ (h.done p hp e)
    · simp
omit [DecidableEq α] in
theorem Bfs2.next {ps : List (α × α)} {x y s : α} {seen : List α} {k j : Nat} (h : Bfs2 ps x y seen k s j) (hj : ps.length ≤ j) : Bfs ps x y seen (k + 1) := by
  have hb := h.bfs
  have hks : k < seen.length := (List.getElem?_eq_some_iff.1 h.at_k).1
  refine ⟨hb.nd, hb.mem, hb.way, hb.sub, by omega, ?_, ?_⟩
  · intro i t hi hit p hp e
    by_cases hik : i = k
    · subst hik
      rw [h.at_k] at hit
      obtain rfl := Option.some.inj hit
      exact h.done p (by rw [List.take_of_length_le hj]; exact hp) e
    · exact hb.closed i t (by omega) hit p hp e
  · intro i t hi hit
    by_cases hik : i = k
    · subst hik
      rw [h.at_k] at hit
      obtain rfl := Option.some.inj hit
      exact h.ne
    · exact hb.noty i t (by omega) hit
end Act
end Go.Proofs.YtfhpmnghakhlkaaDoor
