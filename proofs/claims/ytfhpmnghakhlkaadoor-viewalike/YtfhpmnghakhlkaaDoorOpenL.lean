/- Labels that came in, opened: their cells. -/
import Derived.Test.YtfhpmnghakhlkaaDoorOpenC
import Derived.Test.YtfhpmnghakhlkaaDoorLabK
namespace Go.Proofs.YtfhpmnghakhlkaaDoor
open Go.RowKit Go.ChangeShapes Go.WideShapes Go.Deep

theorem Tryd.cellsPolL : Tryd.prog.cellsOf 61 = 2 := by kernel_rfl
theorem Tryd.cellsSlL : Tryd.prog.cellsOf 22 = 1 := by kernel_rfl

set_option maxRecDepth 100000 in
theorem readers_open {H : Type} {enc : TypeId × Value → H} {w : World} {fuel : Nat} {x : DataW H × List MemPlace} {v : Value} (h : DataW.trod enc Tryd.prog w 0 (fun _ => true) true fuel 22 [v] = some x) : ∃ rs, ReadersAt w v rs ∧ ∀ r ∈ rs, r.size ≤ maxLen := by
  rcases open_slice Tryd.underlying22 h with ⟨hcs, _⟩ | ⟨a, len', cap', m, n, D, Pl, hcs, _, hl, hm, _, _, _⟩
  · simp at hcs
    subst hcs
    obtain ⟨h1, h2, b, off, ls, h3, h4, h5⟩ := strs_open h
    exact ⟨ls, ⟨none, b, off, 0, by rw [← h3], by omega, Nat.zero_le _, h4⟩, h5⟩
  · simp at hcs
    subst hcs
    obtain ⟨h1, h2, b, off, ls, h3, h4, h5⟩ := strs_open h
    exact ⟨ls, ⟨some a, b, off, cap', by rw [← h3], by omega, hm, h4⟩, h5⟩

set_option maxRecDepth 100000 in
theorem label_open {H : Type} {enc : TypeId × Value → H} {w : World} {fuel : Nat} {x : DataW H × List MemPlace} {ao : Option Addr} {len cap : Nat} (h : DataW.trod enc Tryd.prog w 0 (fun _ => true) true fuel 33 [.slice ao len cap] = some x) :
    ∃ b off xs, LabAt w ao b off len cap xs := by
  rcases open_slice Tryd.underlying33 h with ⟨hcs, _⟩ | ⟨a, len', cap', m, n, D, Pl, hcs, _, hl, hm, hmm, _, hx⟩
  · simp at hcs
    obtain ⟨rfl, rfl, rfl⟩ := hcs
    exact ⟨0, 0, [], rfl, Nat.zero_le _, Nat.le_refl _, ⟨fun h => by simp at h, fun k h => by simp at h, fun k h => by simp at h, fun h => by simp at h⟩, fun p h => by simp at h⟩
  · simp at hcs
    obtain ⟨rfl, rfl, rfl⟩ := hcs
    have hlm : len ≤ m := by rw [hmm]; split <;> omega
    have each : ∀ i, i < len → ∃ q : Pol, w.cell? (a.add (i * 2)) = some (.string q.1) ∧ (∃ v, w.cell? (a.add (i * 2 + 1)) = some v ∧ ReadersAt w v q.2) ∧ q.1.size ≤ maxLen ∧ ∀ r ∈ q.2, r.size ≤ maxLen := by
      intro i hi
      obtain ⟨cs', h1, h2⟩ := hx i (by omega)
      rw [Tryd.cellsPolL] at h1
      obtain ⟨_, hlen, hcell⟩ := World.cells?_some h1
      obtain ⟨y0, y1, n', _, _, g0, g1⟩ := trod_struct2 Tryd.underlying61 h2
      match cs', hlen with
      | [v0, v1], _ =>
        simp only [Tryd.cellsSlL, Tryd.cellsStrC] at g0 g1
        obtain ⟨s, e1, _, hs⟩ := DataW.trod_string Tryd.underlying9 g0
        simp at e1
        subst e1
        obtain ⟨rs, hr1, hr2⟩ := readers_open (v := v1) (by simpa using g1)
        have c0 := hcell 0 (by omega)
        have c1 := hcell 1 (by omega)
        rw [add_add] at c0 c1
        exact ⟨(s, rs), by simpa using c0, ⟨v1, by simpa using c1, hr1⟩, hs, hr2⟩
    obtain ⟨q, hq⟩ := choose_lt each
    obtain ⟨b, off, spot⟩ := a
    have hspot : 0 < len → spot = none := fun hp => by simpa [Addr.add] using World.cell?_spot (hq 0 hp).1
    have hadd : ∀ j, 0 < len → (⟨b, off, spot⟩ : Addr).add j = ⟨b, off + j, none⟩ := fun j hp => by rw [hspot hp]; simp [Addr.add]
    refine ⟨b, off, (List.range len).map q, by simp, by omega, by omega, ⟨fun hp => ?_, fun k hk => ?_, fun k hk => ?_, fun hp => ?_⟩, fun p hp => ?_⟩
    · simp at hp; rw [hspot hp]
    · simp at hk
      have := (hq k hk).1
      rw [hadd _ (by omega)] at this
      rw [this]; simp
    · simp at hk
      obtain ⟨v, h1, h2⟩ := (hq k hk).2.1
      rw [hadd _ (by omega), ← Nat.add_assoc] at h1
      exact ⟨v, h1, by simpa using h2⟩
    · simp at hp
      have := (hq 0 hp).1
      rw [hadd _ hp] at this
      exact World.block_lt_of_cell? w _ this
    · simp only [List.mem_map, List.mem_range] at hp
      obtain ⟨k, hk, rfl⟩ := hp
      exact (hq k hk).2.2
end Go.Proofs.YtfhpmnghakhlkaaDoor
