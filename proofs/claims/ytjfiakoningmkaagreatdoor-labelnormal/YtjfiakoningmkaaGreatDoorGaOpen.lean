/- Slices of strings and of pairs of strings that came in, opened: their cells. Pairs of strings that came in: how long they are; the library's own limit, whatever it holds. Labels that came in, opened: their cells. -/
import Derived.Test.YtjfiakoningmkaaGreatDoorActsC
import Derived.OpenShut
import Derived.Deep.Slices
import Derived.Deep.Strs
import Derived.Shelf.Vars
import Derived.Test.YtjfiakoningmkaaGreatDoorGaLabW
namespace Go.Proofs.YtjfiakoningmkaaGreatDoor
open Go.RowKit Go.ChangeShapes Go.WideShapes Go.Deep

theorem Tryz.cellsStrC : Tryz.prog.cellsOf 9 = 1 := by kernel_rfl
theorem Tryz.cellsPairC : Tryz.prog.cellsOf 78 = 2 := by kernel_rfl

set_option maxRecDepth 100000 in
theorem strs_open {H : Type} {enc : TypeId × Value → H} {w : World} {fuel : Nat} {x : DataW H × List MemPlace} {ao : Option Addr} {len cap : Nat} (h : DataW.trod enc Tryz.prog w 0 (fun _ => true) true fuel 22 [.slice ao len cap] = some x) :
    len ≤ cap ∧ len ≤ maxLen ∧ ∃ b off ls, len = ls.length ∧ Strs w ao b off ls ∧ ∀ s ∈ ls, s.size ≤ maxLen := by
  rcases open_slice Tryz.underlying22 h with ⟨hcs, _⟩ | ⟨a, len', cap', m, n, D, Pl, hcs, _, hl, hm, hmm, _, hx⟩
  · simp at hcs
    obtain ⟨rfl, rfl, rfl⟩ := hcs
    exact ⟨Nat.le_refl _, Nat.zero_le _, 0, 0, [], rfl, ⟨fun h => by simp at h, fun k h => by simp at h, fun h => by simp at h⟩, fun s h => by simp at h⟩
  · simp at hcs
    obtain ⟨rfl, rfl, rfl⟩ := hcs
    have hlm : len ≤ m := by rw [hmm]; split <;> omega
    refine ⟨by omega, by omega, ?_⟩
    have each : ∀ i, i < len → ∃ q : ByteArray, w.cell? (a.add i) = some (.string q) ∧ q.size ≤ maxLen := by
      intro i hi
      obtain ⟨cs', h1, h2⟩ := hx i (by omega)
      rw [Tryz.cellsStrC] at h1
      obtain ⟨_, hlen, hcell⟩ := World.cells?_some h1
      match cs', hlen with
      | [v0], _ =>
        obtain ⟨s, e2, _, hs⟩ := DataW.trod_string Tryz.underlying9 h2
        simp at e2
        subst e2
        have c0 := hcell 0 (by omega)
        rw [add_add] at c0
        exact ⟨s, by simpa using c0, hs⟩
    obtain ⟨q, hq⟩ := choose_lt each
    obtain ⟨b, off, spot⟩ := a
    have hspot : 0 < len → spot = none := fun hp => by simpa [Addr.add] using World.cell?_spot (hq 0 hp).1
    have hadd : ∀ j, 0 < len → (⟨b, off, spot⟩ : Addr).add j = ⟨b, off + j, none⟩ := fun j hp => by rw [hspot hp]; simp [Addr.add]
    refine ⟨b, off, (List.range len).map q, by simp, ⟨fun hp => ?_, fun k hk => ?_, fun hp => ?_⟩, fun s hs => ?_⟩
    · simp at hp; rw [hspot hp]
    · simp at hk
      have := (hq k hk).1
      rw [hadd _ (by omega)] at this
      rw [this]; simp
    · simp at hp
      have := (hq 0 hp).1
      rw [hadd _ hp] at this
      exact World.block_lt_of_cell? w _ this
    · simp only [List.mem_map, List.mem_range] at hs
      obtain ⟨k, hk, rfl⟩ := hs
      exact (hq k hk).2

set_option maxRecDepth 100000 in
theorem prs_open {H : Type} {enc : TypeId × Value → H} {w : World} {fuel : Nat} {x : DataW H × List MemPlace} {ao : Option Addr} {len cap : Nat} (h : DataW.trod enc Tryz.prog w 0 (fun _ => true) true fuel 23 [.slice ao len cap] = some x) :
    len ≤ cap ∧ len ≤ maxLen ∧ ∃ b off ps, len = ps.length ∧ Prs w ao b off ps := by
  rcases open_slice Tryz.underlying23 h with ⟨hcs, _⟩ | ⟨a, len', cap', m, n, D, Pl, hcs, _, hl, hm, hmm, _, hx⟩
  · simp at hcs
    obtain ⟨rfl, rfl, rfl⟩ := hcs
    exact ⟨Nat.le_refl _, Nat.zero_le _, 0, 0, [], rfl, ⟨fun h => by simp at h, fun k h => by simp at h, fun k h => by simp at h, fun h => by simp at h⟩⟩
  · simp at hcs
    obtain ⟨rfl, rfl, rfl⟩ := hcs
    have hlm : len ≤ m := by rw [hmm]; split <;> omega
    refine ⟨by omega, by omega, ?_⟩
    have each : ∀ i, i < len → ∃ q : ByteArray × ByteArray, w.cell? (a.add (i * 2)) = some (.string q.1) ∧ w.cell? (a.add (i * 2 + 1)) = some (.string q.2) := by
      intro i hi
      obtain ⟨cs', h1, h2⟩ := hx i (by omega)
      rw [Tryz.cellsPairC] at h1
      obtain ⟨_, hlen, hcell⟩ := World.cells?_some h1
      obtain ⟨xs, n', _, _, _, hxl, hel⟩ := DataW.trod_array Tryz.underlying78 h2
      match cs', hlen with
      | [v0, v1], _ =>
        have g0 := hel 0 (by omega)
        have g1 := hel 1 (by omega)
        rw [Tryz.cellsStrC] at g0 g1
        rw [List.getElem?_eq_getElem (by omega)] at g0 g1
        obtain ⟨s, e1, _, _⟩ := DataW.trod_string Tryz.underlying9 g0
        obtain ⟨t, e2, _, _⟩ := DataW.trod_string Tryz.underlying9 g1
        simp at e1 e2
        subst e1 e2
        have c0 := hcell 0 (by omega)
        have c1 := hcell 1 (by omega)
        rw [add_add] at c0 c1
        exact ⟨(s, t), by simpa using c0, by simpa using c1⟩
    obtain ⟨q, hq⟩ := choose_lt each
    obtain ⟨b, off, spot⟩ := a
    have hspot : 0 < len → spot = none := fun hp => by simpa [Addr.add] using World.cell?_spot (hq 0 hp).1
    have hadd : ∀ j, 0 < len → (⟨b, off, spot⟩ : Addr).add j = ⟨b, off + j, none⟩ := fun j hp => by rw [hspot hp]; simp [Addr.add]
    refine ⟨b, off, (List.range len).map q, by simp, ⟨fun hp => ?_, fun k hk => ?_, fun k hk => ?_, fun hp => ?_⟩⟩
    · simp at hp; rw [hspot hp]
    · simp at hk
      have := (hq k hk).1
      rw [hadd _ (by omega)] at this
      rw [this]; simp
    · simp at hk
      have := (hq k hk).2
      rw [hadd _ (by omega), ← Nat.add_assoc] at this
      rw [this]; simp
    · simp at hp
      have := (hq 0 hp).1
      rw [hadd _ hp] at this
      exact World.block_lt_of_cell? w _ this
end Go.Proofs.YtjfiakoningmkaaGreatDoor

namespace Go.Proofs.YtjfiakoningmkaaGreatDoor
open Go.RowKit Go.ChangeShapes Go.WideShapes Go.Deep

set_option maxRecDepth 100000 in
theorem prs_open_sized {H : Type} {enc : TypeId × Value → H} {w : World} {fuel : Nat} {x : DataW H × List MemPlace} {ao : Option Addr} {len cap : Nat} (h : DataW.trod enc Tryz.prog w 0 (fun _ => true) true fuel 23 [.slice ao len cap] = some x) :
    len ≤ cap ∧ len ≤ maxLen ∧ ∃ b off ps, len = ps.length ∧ Prs w ao b off ps ∧ ∀ p ∈ ps, p.1.size ≤ maxLen ∧ p.2.size ≤ maxLen := by
  rcases open_slice Tryz.underlying23 h with ⟨hcs, _⟩ | ⟨a, len', cap', m, n, D, Pl, hcs, _, hl, hm, hmm, _, hx⟩
  · simp at hcs
    obtain ⟨rfl, rfl, rfl⟩ := hcs
    exact ⟨Nat.le_refl _, Nat.zero_le _, 0, 0, [], rfl, ⟨fun h => by simp at h, fun k h => by simp at h, fun k h => by simp at h, fun h => by simp at h⟩, fun p h => by simp at h⟩
  · simp at hcs
    obtain ⟨rfl, rfl, rfl⟩ := hcs
    have hlm : len ≤ m := by rw [hmm]; split <;> omega
    refine ⟨by omega, by omega, ?_⟩
    have each : ∀ i, i < len → ∃ q : ByteArray × ByteArray, w.cell? (a.add (i * 2)) = some (.string q.1) ∧ w.cell? (a.add (i * 2 + 1)) = some (.string q.2) ∧ q.1.size ≤ maxLen ∧ q.2.size ≤ maxLen := by
      intro i hi
      obtain ⟨cs', h1, h2⟩ := hx i (by omega)
      rw [Tryz.cellsPairC] at h1
      obtain ⟨_, hlen, hcell⟩ := World.cells?_some h1
      obtain ⟨xs, n', _, _, _, hxl, hel⟩ := DataW.trod_array Tryz.underlying78 h2
      match cs', hlen with
      | [v0, v1], _ =>
        have g0 := hel 0 (by omega)
        have g1 := hel 1 (by omega)
        rw [Tryz.cellsStrC] at g0 g1
        rw [List.getElem?_eq_getElem (by omega)] at g0 g1
        obtain ⟨s, e1, _, z1⟩ := DataW.trod_string Tryz.underlying9 g0
        obtain ⟨t, e2, _, z2⟩ := DataW.trod_string Tryz.underlying9 g1
        simp at e1 e2
        subst e1 e2
        have c0 := hcell 0 (by omega)
        have c1 := hcell 1 (by omega)
        rw [add_add] at c0 c1
        exact ⟨(s, t), by simpa using c0, by simpa using c1, z1, z2⟩
    obtain ⟨q, hq⟩ := choose_lt each
    obtain ⟨b, off, spot⟩ := a
    have hspot : 0 < len → spot = none := fun hp => by simpa [Addr.add] using World.cell?_spot (hq 0 hp).1
    have hadd : ∀ j, 0 < len → (⟨b, off, spot⟩ : Addr).add j = ⟨b, off + j, none⟩ := fun j hp => by rw [hspot hp]; simp [Addr.add]
    refine ⟨b, off, (List.range len).map q, by simp, ⟨fun hp => ?_, fun k hk => ?_, fun k hk => ?_, fun hp => ?_⟩, fun p hp => ?_⟩
    · simp at hp; rw [hspot hp]
    · simp at hk
      have := (hq k hk).1
      rw [hadd _ (by omega)] at this
      rw [this]; simp
    · simp at hk
      have := (hq k hk).2.1
      rw [hadd _ (by omega), ← Nat.add_assoc] at this
      rw [this]; simp
    · simp at hp
      have := (hq 0 hp).1
      rw [hadd _ hp] at this
      exact World.block_lt_of_cell? w _ this
    · simp only [List.mem_map, List.mem_range] at hp
      obtain ⟨k, hk, rfl⟩ := hp
      exact (hq k hk).2.2
end Go.Proofs.YtjfiakoningmkaaGreatDoor

namespace Go.Proofs.YtjfiakoningmkaaGreatDoor
open Go.RowKit Go.ChangeShapes Go.WideShapes Go.Deep

theorem Tryz.cellsPolL : Tryz.prog.cellsOf 37 = 2 := by kernel_rfl
theorem Tryz.cellsSlL : Tryz.prog.cellsOf 22 = 1 := by kernel_rfl

set_option maxRecDepth 100000 in
theorem readers_open {H : Type} {enc : TypeId × Value → H} {w : World} {fuel : Nat} {x : DataW H × List MemPlace} {v : Value} (h : DataW.trod enc Tryz.prog w 0 (fun _ => true) true fuel 22 [v] = some x) : ∃ rs, ReadersAt w v rs ∧ ∀ r ∈ rs, r.size ≤ maxLen := by
  rcases open_slice Tryz.underlying22 h with ⟨hcs, _⟩ | ⟨a, len', cap', m, n, D, Pl, hcs, _, hl, hm, _, _, _⟩
  · simp at hcs
    subst hcs
    obtain ⟨h1, h2, b, off, ls, h3, h4, h5⟩ := strs_open h
    exact ⟨ls, ⟨none, b, off, 0, by rw [← h3], by omega, Nat.zero_le _, h4⟩, h5⟩
  · simp at hcs
    subst hcs
    obtain ⟨h1, h2, b, off, ls, h3, h4, h5⟩ := strs_open h
    exact ⟨ls, ⟨some a, b, off, cap', by rw [← h3], by omega, hm, h4⟩, h5⟩

set_option maxRecDepth 100000 in
theorem label_open {H : Type} {enc : TypeId × Value → H} {w : World} {fuel : Nat} {x : DataW H × List MemPlace} {ao : Option Addr} {len cap : Nat} (h : DataW.trod enc Tryz.prog w 0 (fun _ => true) true fuel 25 [.slice ao len cap] = some x) :
    ∃ b off xs, LabAt w ao b off len cap xs := by
  rcases open_slice Tryz.underlying25 h with ⟨hcs, _⟩ | ⟨a, len', cap', m, n, D, Pl, hcs, _, hl, hm, hmm, _, hx⟩
  · simp at hcs
    obtain ⟨rfl, rfl, rfl⟩ := hcs
    exact ⟨0, 0, [], rfl, Nat.zero_le _, Nat.le_refl _, ⟨fun h => by simp at h, fun k h => by simp at h, fun k h => by simp at h, fun h => by simp at h⟩, fun p h => by simp at h⟩
  · simp at hcs
    obtain ⟨rfl, rfl, rfl⟩ := hcs
    have hlm : len ≤ m := by rw [hmm]; split <;> omega
    have each : ∀ i, i < len → ∃ q : Pol, w.cell? (a.add (i * 2)) = some (.string q.1) ∧ (∃ v, w.cell? (a.add (i * 2 + 1)) = some v ∧ ReadersAt w v q.2) ∧ q.1.size ≤ maxLen ∧ ∀ r ∈ q.2, r.size ≤ maxLen := by
      intro i hi
      obtain ⟨cs', h1, h2⟩ := hx i (by omega)
      rw [Tryz.cellsPolL] at h1
      obtain ⟨_, hlen, hcell⟩ := World.cells?_some h1
      obtain ⟨y0, y1, n', _, _, g0, g1⟩ := trod_struct2 Tryz.underlying37 h2
      match cs', hlen with
      | [v0, v1], _ =>
        simp only [Tryz.cellsSlL, Tryz.cellsStrC] at g0 g1
        obtain ⟨s, e1, _, hs⟩ := DataW.trod_string Tryz.underlying9 g0
        simp at e1
        subst e1
        obtain ⟨rs, hr1, hr2⟩ := readers_open (v := v1) (by simpa using g1)
        have c0 := hcell 0 (by omega)
        have c1 := hcell 1 (by omega)
        rw [add_add] at c0 c1
        exact ⟨(s, rs), by simpa using c0, ⟨v1, by simpa using c1, hr1⟩, hs, hr2⟩
    obtain ⟨q, hq⟩ := choose_lt each
    obtain ⟨b, off, spot⟩ := a
    have hspot : 0 < len → spot = none := fun hp => by simpa [Addr.add] using World.cell?_spot (hq 0 hp).1
    have hadd : ∀ j, 0 < len → (⟨b, off, spot⟩ : Addr).add j = ⟨b, off + j, none⟩ := fun j hp => by rw [hspot hp]; simp [Addr.add]
    refine ⟨b, off, (List.range len).map q, by simp, by omega, by omega, ⟨fun hp => ?_, fun k hk => ?_, fun k hk => ?_, fun hp => ?_⟩, fun p hp => ?_⟩
    · simp at hp; rw [hspot hp]
    · simp at hk
      have := (hq k hk).1
      rw [hadd _ (by omega)] at this
      rw [this]; simp
    · simp at hk
      obtain ⟨v, h1, h2⟩ := (hq k hk).2.1
      rw [hadd _ (by omega), ← Nat.add_assoc] at h1
      exact ⟨v, h1, by simpa using h2⟩
    · simp at hp
      have := (hq 0 hp).1
      rw [hadd _ hp] at this
      exact World.block_lt_of_cell? w _ this
    · simp only [List.mem_map, List.mem_range] at hp
      obtain ⟨k, hk, rfl⟩ := hp
      exact (hq k hk).2.2
end Go.Proofs.YtjfiakoningmkaaGreatDoor
