/- Pairs of strings that came in: how long they are; the library's own limit, whatever it holds. -/
import Derived.Test.YtfhpmnghakhlkaaDoorOpenC
import Derived.Shelf.Vars
namespace Go.Proofs.YtfhpmnghakhlkaaDoor
open Go.RowKit Go.ChangeShapes Go.WideShapes Go.Deep

set_option maxRecDepth 100000 in
theorem prs_open_sized {H : Type} {enc : TypeId × Value → H} {w : World} {fuel : Nat} {x : DataW H × List MemPlace} {ao : Option Addr} {len cap : Nat} (h : DataW.trod enc Tryd.prog w 0 (fun _ => true) true fuel 23 [.slice ao len cap] = some x) :
    len ≤ cap ∧ len ≤ maxLen ∧ ∃ b off ps, len = ps.length ∧ Prs w ao b off ps ∧ ∀ p ∈ ps, p.1.size ≤ maxLen ∧ p.2.size ≤ maxLen := by
  rcases open_slice Tryd.underlying23 h with ⟨hcs, _⟩ | ⟨a, len', cap', m, n, D, Pl, hcs, _, hl, hm, hmm, _, hx⟩
  · simp at hcs
    obtain ⟨rfl, rfl, rfl⟩ := hcs
    exact ⟨Nat.le_refl _, Nat.zero_le _, 0, 0, [], rfl, ⟨fun h => by simp at h, fun k h => by simp at h, fun k h => by simp at h, fun h => by simp at h⟩, fun p h => by simp at h⟩
  · simp at hcs
    obtain ⟨rfl, rfl, rfl⟩ := hcs
    have hlm : len ≤ m := by rw [hmm]; split <;> omega
    refine ⟨by omega, by omega, ?_⟩
    have each : ∀ i, i < len → ∃ q : ByteArray × ByteArray, w.cell? (a.add (i * 2)) = some (.string q.1) ∧ w.cell? (a.add (i * 2 + 1)) = some (.string q.2) ∧ q.1.size ≤ maxLen ∧ q.2.size ≤ maxLen := by
      intro i hi
      obtain ⟨cs', h1, h2⟩ := hx i (by omega)
      rw [Tryd.cellsPairC] at h1
      obtain ⟨_, hlen, hcell⟩ := World.cells?_some h1
      obtain ⟨xs, n', _, _, _, hxl, hel⟩ := DataW.trod_array Tryd.underlying65 h2
      match cs', hlen with
      | [v0, v1], _ =>
        have g0 := hel 0 (by omega)
        have g1 := hel 1 (by omega)
        rw [Tryd.cellsStrC] at g0 g1
        rw [List.getElem?_eq_getElem (by omega)] at g0 g1
        obtain ⟨s, e1, _, z1⟩ := DataW.trod_string Tryd.underlying9 g0
        obtain ⟨t, e2, _, z2⟩ := DataW.trod_string Tryd.underlying9 g1
        simp at e1 e2
        subst e1 e2
        have c0 := hcell 0 (by omega)
        have c1 := hcell 1 (by omega)
        rw [add_add] at c0 c1
        exact ⟨(s, t), by simpa using c0, by simpa using c1, z1, z2⟩
    obtain ⟨q, hq⟩ := choose_lt each
    obtain ⟨b, off, spot⟩ := a
    have hspot : 0 < len → spot = none := fun hp => by simpa [Addr.add] using World.cell?_spot (hq 0 hp).1
    have hadd : ∀ j, 0 < len → (⟨b, off, spot⟩ : Addr).add j = ⟨b, off + j, none⟩ := fun j hp => by rw [hspot hp]; simp [Addr.add]
    refine ⟨b, off, (List.range len).map q, by simp, ⟨fun hp => ?_, fun k hk => ?_, fun k hk => ?_, fun hp => ?_⟩, fun p hp => ?_⟩
    · simp at hp; rw [hspot hp]
    · simp at hk
      have := (hq k hk).1
      rw [hadd _ (by omega)] at this
      rw [this]; simp
    · simp at hk
      have := (hq k hk).2.1
      rw [hadd _ (by omega), ← Nat.add_assoc] at this
      rw [this]; simp
    · simp at hp
      have := (hq 0 hp).1
      rw [hadd _ hp] at this
      exact World.block_lt_of_cell? w _ this
    · simp only [List.mem_map, List.mem_range] at hp
      obtain ⟨k, hk, rfl⟩ := hp
      exact (hq k hk).2.2
end Go.Proofs.YtfhpmnghakhlkaaDoor
