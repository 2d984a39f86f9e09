/- Slices of strings and of pairs of strings that came in, opened: their cells. Pairs of strings that came in: how long they are; the library's own limit, whatever it holds. Labels that came in, opened: their cells. Bounds and rows of labels that came in, opened: their cells; the library's table of places of bits. -/
import Derived.Test.YtpbknhhjfhpkmaaGreatDoorActsC
import Derived.OpenShut
import Derived.Deep.Slices
import Derived.Deep.Strs
import Derived.Shelf.Vars
import Derived.Test.YtpbknhhjfhpkmaaGreatDoorGaLabW
import Derived.Test.YtpbknhhjfhpkmaaGreatDoorGaSvA
namespace Go.Proofs.YtpbknhhjfhpkmaaGreatDoor
open Go.RowKit Go.ChangeShapes Go.WideShapes Go.Deep

theorem Tryz.cellsStrC : Tryz.prog.cellsOf 9 = 1 := by kernel_rfl
theorem Tryz.cellsPairC : Tryz.prog.cellsOf 115 = 2 := by kernel_rfl

set_option maxRecDepth 100000 in
theorem strs_open {H : Type} {enc : TypeId × Value → H} {w : World} {fuel : Nat} {x : DataW H × List MemPlace} {ao : Option Addr} {len cap : Nat} (h : DataW.trod enc Tryz.prog w 0 (fun _ => true) true fuel 22 [.slice ao len cap] = some x) :
    len ≤ cap ∧ len ≤ maxLen ∧ ∃ b off ls, len = ls.length ∧ Strs w ao b off ls ∧ ∀ s ∈ ls, s.size ≤ maxLen := by
  rcases open_slice Tryz.underlying22 h with ⟨hcs, _⟩ | ⟨a, len', cap', m, n, D, Pl, hcs, _, hl, hm, hmm, _, hx⟩
  · simp at hcs
    obtain ⟨rfl, rfl, rfl⟩ := hcs
    exact ⟨Nat.le_refl _, Nat.zero_le _, 0, 0, [], rfl, ⟨fun h => by simp at h, fun k h => by simp at h, fun h => by simp at h⟩, fun s h => by simp at h⟩
  · simp at hcs
    obtain ⟨rfl, rfl, rfl⟩ := hcs
    have hlm : len ≤ m := by rw [hmm]; split <;> omega
    refine ⟨by omega, by omega, ?_⟩
    have each : ∀ i, i < len → ∃ q : ByteArray, w.cell? (a.add i) = some (.string q) ∧ q.size ≤ maxLen := by
      intro i hi
      obtain ⟨cs', h1, h2⟩ := hx i (by omega)
      rw [Tryz.cellsStrC] at h1
      obtain ⟨_, hlen, hcell⟩ := World.cells?_some h1
      match cs', hlen with
      | [v0], _ =>
        obtain ⟨s, e2, _, hs⟩ := DataW.trod_string Tryz.underlying9 h2
        simp at e2
        subst e2
        have c0 := hcell 0 (by omega)
        rw [add_add] at c0
        exact ⟨s, by simpa using c0, hs⟩
    obtain ⟨q, hq⟩ := choose_lt each
    obtain ⟨b, off, spot⟩ := a
    have hspot : 0 < len → spot = none := fun hp => by simpa [Addr.add] using World.cell?_spot (hq 0 hp).1
    have hadd : ∀ j, 0 < len → (⟨b, off, spot⟩ : Addr).add j = ⟨b, off + j, none⟩ := fun j hp => by rw [hspot hp]; simp [Addr.add]
    refine ⟨b, off, (List.range len).map q, by simp, ⟨fun hp => ?_, fun k hk => ?_, fun hp => ?_⟩, fun s hs => ?_⟩
    · simp at hp; rw [hspot hp]
    · simp at hk
      have := (hq k hk).1
      rw [hadd _ (by omega)] at this
      rw [this]; simp
    · simp at hp
      have := (hq 0 hp).1
      rw [hadd _ hp] at this
      exact World.block_lt_of_cell? w _ this
    · simp only [List.mem_map, List.mem_range] at hs
      obtain ⟨k, hk, rfl⟩ := hs
      exact (hq k hk).2

set_option maxRecDepth 100000 in
theorem prs_open {H : Type} {enc : TypeId × Value → H} {w : World} {fuel : Nat} {x : DataW H × List MemPlace} {ao : Option Addr} {len cap : Nat} (h : DataW.trod enc Tryz.prog w 0 (fun _ => true) true fuel 23 [.slice ao len cap] = some x) :
    len ≤ cap ∧ len ≤ maxLen ∧ ∃ b off ps, len = ps.length ∧ Prs w ao b off ps := by
  rcases open_slice Tryz.underlying23 h with ⟨hcs, _⟩ | ⟨a, len', cap', m, n, D, Pl, hcs, _, hl, hm, hmm, _, hx⟩
  · simp at hcs
    obtain ⟨rfl, rfl, rfl⟩ := hcs
    exact ⟨Nat.le_refl _, Nat.zero_le _, 0, 0, [], rfl, ⟨fun h => by simp at h, fun k h => by simp at h, fun k h => by simp at h, fun h => by simp at h⟩⟩
  · simp at hcs
    obtain ⟨rfl, rfl, rfl⟩ := hcs
    have hlm : len ≤ m := by rw [hmm]; split <;> omega
    refine ⟨by omega, by omega, ?_⟩
    have each : ∀ i, i < len → ∃ q : ByteArray × ByteArray, w.cell? (a.add (i * 2)) = some (.string q.1) ∧ w.cell? (a.add (i * 2 + 1)) = some (.string q.2) := by
      intro i hi
      obtain ⟨cs', h1, h2⟩ := hx i (by omega)
      rw [Tryz.cellsPairC] at h1
      obtain ⟨_, hlen, hcell⟩ := World.cells?_some h1
      obtain ⟨xs, n', _, _, _, hxl, hel⟩ := DataW.trod_array Tryz.underlying115 h2
      match cs', hlen with
      | [v0, v1], _ =>
        have g0 := hel 0 (by omega)
        have g1 := hel 1 (by omega)
        rw [Tryz.cellsStrC] at g0 g1
        rw [List.getElem?_eq_getElem (by omega)] at g0 g1
        obtain ⟨s, e1, _, _⟩ := DataW.trod_string Tryz.underlying9 g0
        obtain ⟨t, e2, _, _⟩ := DataW.trod_string Tryz.underlying9 g1
        simp at e1 e2
        subst e1 e2
        have c0 := hcell 0 (by omega)
        have c1 := hcell 1 (by omega)
        rw [add_add] at c0 c1
        exact ⟨(s, t), by simpa using c0, by simpa using c1⟩
    obtain ⟨q, hq⟩ := choose_lt each
    obtain ⟨b, off, spot⟩ := a
    have hspot : 0 < len → spot = none := fun hp => by simpa [Addr.add] using World.cell?_spot (hq 0 hp).1
    have hadd : ∀ j, 0 < len → (⟨b, off, spot⟩ : Addr).add j = ⟨b, off + j, none⟩ := fun j hp => by rw [hspot hp]; simp [Addr.add]
    refine ⟨b, off, (List.range len).map q, by simp, ⟨fun hp => ?_, fun k hk => ?_, fun k hk => ?_, fun hp => ?_⟩⟩
    · simp at hp; rw [hspot hp]
    · simp at hk
      have := (hq k hk).1
      rw [hadd _ (by omega)] at this
      rw [this]; simp
    · simp at hk
      have := (hq k hk).2
      rw [hadd _ (by omega), ← Nat.add_assoc] at this
      rw [this]; simp
    · simp at hp
      have := (hq 0 hp).1
      rw [hadd _ hp] at this
      exact World.block_lt_of_cell? w _ this
end Go.Proofs.YtpbknhhjfhpkmaaGreatDoor

namespace Go.Proofs.YtpbknhhjfhpkmaaGreatDoor
open Go.RowKit Go.ChangeShapes Go.WideShapes Go.Deep

set_option maxRecDepth 100000 in
theorem prs_open_sized {H : Type} {enc : TypeId × Value → H} {w : World} {fuel : Nat} {x : DataW H × List MemPlace} {ao : Option Addr} {len cap : Nat} (h : DataW.trod enc Tryz.prog w 0 (fun _ => true) true fuel 23 [.slice ao len cap] = some x) :
    len ≤ cap ∧ len ≤ maxLen ∧ ∃ b off ps, len = ps.length ∧ Prs w ao b off ps ∧ ∀ p ∈ ps, p.1.size ≤ maxLen ∧ p.2.size ≤ maxLen := by
  rcases open_slice Tryz.underlying23 h with ⟨hcs, _⟩ | ⟨a, len', cap', m, n, D, Pl, hcs, _, hl, hm, hmm, _, hx⟩
  · simp at hcs
    obtain ⟨rfl, rfl, rfl⟩ := hcs
    exact ⟨Nat.le_refl _, Nat.zero_le _, 0, 0, [], rfl, ⟨fun h => by simp at h, fun k h => by simp at h, fun k h => by simp at h, fun h => by simp at h⟩, fun p h => by simp at h⟩
  · simp at hcs
    obtain ⟨rfl, rfl, rfl⟩ := hcs
    have hlm : len ≤ m := by rw [hmm]; split <;> omega
    refine ⟨by omega, by omega, ?_⟩
    have each : ∀ i, i < len → ∃ q : ByteArray × ByteArray, w.cell? (a.add (i * 2)) = some (.string q.1) ∧ w.cell? (a.add (i * 2 + 1)) = some (.string q.2) ∧ q.1.size ≤ maxLen ∧ q.2.size ≤ maxLen := by
      intro i hi
      obtain ⟨cs', h1, h2⟩ := hx i (by omega)
      rw [Tryz.cellsPairC] at h1
      obtain ⟨_, hlen, hcell⟩ := World.cells?_some h1
      obtain ⟨xs, n', _, _, _, hxl, hel⟩ := DataW.trod_array Tryz.underlying115 h2
      match cs', hlen with
      | [v0, v1], _ =>
        have g0 := hel 0 (by omega)
        have g1 := hel 1 (by omega)
        rw [Tryz.cellsStrC] at g0 g1
        rw [List.getElem?_eq_getElem (by omega)] at g0 g1
        obtain ⟨s, e1, _, z1⟩ := DataW.trod_string Tryz.underlying9 g0
        obtain ⟨t, e2, _, z2⟩ := DataW.trod_string Tryz.underlying9 g1
        simp at e1 e2
        subst e1 e2
        have c0 := hcell 0 (by omega)
        have c1 := hcell 1 (by omega)
        rw [add_add] at c0 c1
        exact ⟨(s, t), by simpa using c0, by simpa using c1, z1, z2⟩
    obtain ⟨q, hq⟩ := choose_lt each
    obtain ⟨b, off, spot⟩ := a
    have hspot : 0 < len → spot = none := fun hp => by simpa [Addr.add] using World.cell?_spot (hq 0 hp).1
    have hadd : ∀ j, 0 < len → (⟨b, off, spot⟩ : Addr).add j = ⟨b, off + j, none⟩ := fun j hp => by rw [hspot hp]; simp [Addr.add]
    refine ⟨b, off, (List.range len).map q, by simp, ⟨fun hp => ?_, fun k hk => ?_, fun k hk => ?_, fun hp => ?_⟩, fun p hp => ?_⟩
    · simp at hp; rw [hspot hp]
    · simp at hk
      have := (hq k hk).1
      rw [hadd _ (by omega)] at this
      rw [this]; simp
    · simp at hk
      have := (hq k hk).2.1
      rw [hadd _ (by omega), ← Nat.add_assoc] at this
      rw [this]; simp
    · simp at hp
      have := (hq 0 hp).1
      rw [hadd _ hp] at this
      exact World.block_lt_of_cell? w _ this
    · simp only [List.mem_map, List.mem_range] at hp
      obtain ⟨k, hk, rfl⟩ := hp
      exact (hq k hk).2.2
end Go.Proofs.YtpbknhhjfhpkmaaGreatDoor

namespace Go.Proofs.YtpbknhhjfhpkmaaGreatDoor
open Go.RowKit Go.ChangeShapes Go.WideShapes Go.Deep

theorem Tryz.cellsPolL : Tryz.prog.cellsOf 63 = 2 := by kernel_rfl
theorem Tryz.cellsSlL : Tryz.prog.cellsOf 22 = 1 := by kernel_rfl

set_option maxRecDepth 100000 in
theorem readers_open {H : Type} {enc : TypeId × Value → H} {w : World} {fuel : Nat} {x : DataW H × List MemPlace} {v : Value} (h : DataW.trod enc Tryz.prog w 0 (fun _ => true) true fuel 22 [v] = some x) : ∃ rs, ReadersAt w v rs ∧ ∀ r ∈ rs, r.size ≤ maxLen := by
  rcases open_slice Tryz.underlying22 h with ⟨hcs, _⟩ | ⟨a, len', cap', m, n, D, Pl, hcs, _, hl, hm, _, _, _⟩
  · simp at hcs
    subst hcs
    obtain ⟨h1, h2, b, off, ls, h3, h4, h5⟩ := strs_open h
    exact ⟨ls, ⟨none, b, off, 0, by rw [← h3], by omega, Nat.zero_le _, h4⟩, h5⟩
  · simp at hcs
    subst hcs
    obtain ⟨h1, h2, b, off, ls, h3, h4, h5⟩ := strs_open h
    exact ⟨ls, ⟨some a, b, off, cap', by rw [← h3], by omega, hm, h4⟩, h5⟩

set_option maxRecDepth 100000 in
theorem label_open {H : Type} {enc : TypeId × Value → H} {w : World} {fuel : Nat} {x : DataW H × List MemPlace} {ao : Option Addr} {len cap : Nat} (h : DataW.trod enc Tryz.prog w 0 (fun _ => true) true fuel 34 [.slice ao len cap] = some x) :
    ∃ b off xs, LabAt w ao b off len cap xs := by
  rcases open_slice Tryz.underlying34 h with ⟨hcs, _⟩ | ⟨a, len', cap', m, n, D, Pl, hcs, _, hl, hm, hmm, _, hx⟩
  · simp at hcs
    obtain ⟨rfl, rfl, rfl⟩ := hcs
    exact ⟨0, 0, [], rfl, Nat.zero_le _, Nat.le_refl _, ⟨fun h => by simp at h, fun k h => by simp at h, fun k h => by simp at h, fun h => by simp at h⟩, fun p h => by simp at h⟩
  · simp at hcs
    obtain ⟨rfl, rfl, rfl⟩ := hcs
    have hlm : len ≤ m := by rw [hmm]; split <;> omega
    have each : ∀ i, i < len → ∃ q : Pol, w.cell? (a.add (i * 2)) = some (.string q.1) ∧ (∃ v, w.cell? (a.add (i * 2 + 1)) = some v ∧ ReadersAt w v q.2) ∧ q.1.size ≤ maxLen ∧ ∀ r ∈ q.2, r.size ≤ maxLen := by
      intro i hi
      obtain ⟨cs', h1, h2⟩ := hx i (by omega)
      rw [Tryz.cellsPolL] at h1
      obtain ⟨_, hlen, hcell⟩ := World.cells?_some h1
      obtain ⟨y0, y1, n', _, _, g0, g1⟩ := trod_struct2 Tryz.underlying63 h2
      match cs', hlen with
      | [v0, v1], _ =>
        simp only [Tryz.cellsSlL, Tryz.cellsStrC] at g0 g1
        obtain ⟨s, e1, _, hs⟩ := DataW.trod_string Tryz.underlying9 g0
        simp at e1
        subst e1
        obtain ⟨rs, hr1, hr2⟩ := readers_open (v := v1) (by simpa using g1)
        have c0 := hcell 0 (by omega)
        have c1 := hcell 1 (by omega)
        rw [add_add] at c0 c1
        exact ⟨(s, rs), by simpa using c0, ⟨v1, by simpa using c1, hr1⟩, hs, hr2⟩
    obtain ⟨q, hq⟩ := choose_lt each
    obtain ⟨b, off, spot⟩ := a
    have hspot : 0 < len → spot = none := fun hp => by simpa [Addr.add] using World.cell?_spot (hq 0 hp).1
    have hadd : ∀ j, 0 < len → (⟨b, off, spot⟩ : Addr).add j = ⟨b, off + j, none⟩ := fun j hp => by rw [hspot hp]; simp [Addr.add]
    refine ⟨b, off, (List.range len).map q, by simp, by omega, by omega, ⟨fun hp => ?_, fun k hk => ?_, fun k hk => ?_, fun hp => ?_⟩, fun p hp => ?_⟩
    · simp at hp; rw [hspot hp]
    · simp at hk
      have := (hq k hk).1
      rw [hadd _ (by omega)] at this
      rw [this]; simp
    · simp at hk
      obtain ⟨v, h1, h2⟩ := (hq k hk).2.1
      rw [hadd _ (by omega), ← Nat.add_assoc] at h1
      exact ⟨v, h1, by simpa using h2⟩
    · simp at hp
      have := (hq 0 hp).1
      rw [hadd _ hp] at this
      exact World.block_lt_of_cell? w _ this
    · simp only [List.mem_map, List.mem_range] at hp
      obtain ⟨k, hk, rfl⟩ := hp
      exact (hq k hk).2.2
end Go.Proofs.YtpbknhhjfhpkmaaGreatDoor

namespace Go.Proofs.YtpbknhhjfhpkmaaGreatDoor
open Go.RowKit Go.ChangeShapes Go.WideShapes Go.Deep

instance : Inhabited RBd := ⟨⟨[], [], 0, [], 0, []⟩⟩
theorem Tryz.cellsBdB : Tryz.prog.cellsOf 60 = 6 := by kernel_rfl
theorem Tryz.cellsIntB : Tryz.prog.cellsOf 3 = 1 := by kernel_rfl
theorem Tryz.cellsIntsB : Tryz.prog.cellsOf 40 = 1 := by kernel_rfl
theorem Tryz.cellsLabB : Tryz.prog.cellsOf 34 = 1 := by kernel_rfl
theorem trod_six {H : Type} {P : Program} {enc : TypeId × Value → H} {w : World} {base : Nat} {spare : Nat → Bool} {held : Bool} {t : TypeId} {f0 f1 f2 f3 f4 f5 : Field} {fuel : Nat} {cs : List Value} {x : DataW H × List MemPlace} (ht : P.underlying t = some (.struct #[f0, f1, f2, f3, f4, f5])) (h : DataW.trod enc P w base spare held fuel t cs = some x) :
    ∃ y0 y1 y2 y3 y4 y5 n, DataW.trod enc P w base spare held n f0.type ((cs.drop f0.offset).take (P.cellsOf f0.type)) = some y0 ∧ DataW.trod enc P w base spare held n f1.type ((cs.drop f1.offset).take (P.cellsOf f1.type)) = some y1 ∧ DataW.trod enc P w base spare held n f2.type ((cs.drop f2.offset).take (P.cellsOf f2.type)) = some y2 ∧ DataW.trod enc P w base spare held n f3.type ((cs.drop f3.offset).take (P.cellsOf f3.type)) = some y3 ∧ DataW.trod enc P w base spare held n f4.type ((cs.drop f4.offset).take (P.cellsOf f4.type)) = some y4 ∧ DataW.trod enc P w base spare held n f5.type ((cs.drop f5.offset).take (P.cellsOf f5.type)) = some y5 := by
  obtain ⟨xs, n, _, rfl, hl, hlen, hf⟩ := DataW.trod_struct ht h
  match xs, hlen with
  | [y0, y1, y2, y3, y4, y5], _ => exact ⟨y0, y1, y2, y3, y4, y5, n, by simpa using hf 0 f0 rfl, by simpa using hf 1 f1 rfl, by simpa using hf 2 f2 rfl, by simpa using hf 3 f3 rfl, by simpa using hf 4 f4 rfl, by simpa using hf 5 f5 rfl⟩
theorem labV_open {H : Type} {enc : TypeId × Value → H} {w : World} {fuel : Nat} {x : DataW H × List MemPlace} {v : Value} (h : DataW.trod enc Tryz.prog w 0 (fun _ => true) true fuel 34 [v] = some x) : ∃ xs, LabVal w v xs := by
  rcases open_slice Tryz.underlying34 h with ⟨hcs, _⟩ | ⟨a, len', cap', m, n, D, Pl, hcs, _⟩
  · simp at hcs
    subst hcs
    obtain ⟨b, off, xs, h1⟩ := label_open h
    exact ⟨xs, _, b, off, _, _, rfl, h1⟩
  · simp at hcs
    subst hcs
    obtain ⟨b, off, xs, h1⟩ := label_open h
    exact ⟨xs, _, b, off, _, _, rfl, h1⟩

set_option maxRecDepth 100000 in
theorem intsV_open {H : Type} {enc : TypeId × Value → H} {w : World} {fuel : Nat} {x : DataW H × List MemPlace} {v : Value} (h : DataW.trod enc Tryz.prog w 0 (fun _ => true) true fuel 40 [v] = some x) : ∃ l, IntsAt w v l := by
  rcases open_slice Tryz.underlying40 h with ⟨hcs, _⟩ | ⟨a, len, cap, m, n, D, Pl, hcs, _, hl, hm, hmm, _, hx⟩
  · simp at hcs
    exact ⟨[], none, 0, 0, 0, hcs, Nat.zero_le _, ⟨fun h => by simp at h, fun k h => by simp at h, fun h => by simp at h⟩⟩
  · simp at hcs
    have hlm : len ≤ m := by rw [hmm]; split <;> omega
    have each : ∀ i, i < len → ∃ q : Int, w.cell? (a.add i) = some (.int .i64 q) := by
      intro i hi
      obtain ⟨cs', h1, h2⟩ := hx i (by omega)
      rw [Tryz.cellsIntB] at h1
      obtain ⟨_, hlen, hcell⟩ := World.cells?_some h1
      match cs', hlen with
      | [v0], _ =>
        obtain ⟨z, e2, _, _⟩ := DataW.trod_int Tryz.underlying3 h2
        simp at e2
        subst e2
        have c0 := hcell 0 (by omega)
        rw [add_add] at c0
        exact ⟨z, by simpa using c0⟩
    obtain ⟨q, hq⟩ := choose_lt each
    obtain ⟨b, off, spot⟩ := a
    have hspot : 0 < len → spot = none := fun hp => by simpa [Addr.add] using World.cell?_spot (hq 0 hp)
    have hadd : ∀ j, 0 < len → (⟨b, off, spot⟩ : Addr).add j = ⟨b, off + j, none⟩ := fun j hp => by rw [hspot hp]; simp [Addr.add]
    refine ⟨(List.range len).map q, some ⟨b, off, spot⟩, b, off, cap, by simpa using hcs, by simp; omega, ⟨fun hp => ?_, fun k hk => ?_, fun hp => ?_⟩⟩
    · simp at hp; rw [hspot hp]
    · simp at hk
      have := hq k hk
      rw [hadd _ (by omega)] at this
      rw [this]; simp
    · simp at hp
      have := hq 0 hp
      rw [hadd _ hp] at this
      exact World.block_lt_of_cell? w _ this

set_option maxRecDepth 100000 in
theorem labels_open {H : Type} {enc : TypeId × Value → H} {w : World} {fuel : Nat} {x : DataW H × List MemPlace} {ao : Option Addr} {len cap : Nat} (h : DataW.trod enc Tryz.prog w 0 (fun _ => true) true fuel 25 [.slice ao len cap] = some x) :
    len ≤ maxLen ∧ ∃ b off ys, len = ys.length ∧ LbsAt w ao b off ys := by
  rcases open_slice Tryz.underlying25 h with ⟨hcs, _⟩ | ⟨a, len', cap', m, n, D, Pl, hcs, _, hl, hm, hmm, _, hx⟩
  · simp at hcs
    obtain ⟨rfl, rfl, rfl⟩ := hcs
    exact ⟨Nat.zero_le _, 0, 0, [], rfl, ⟨fun h => by simp at h, fun k h => by simp at h⟩⟩
  · simp at hcs
    obtain ⟨rfl, rfl, rfl⟩ := hcs
    have hlm : len ≤ m := by rw [hmm]; split <;> omega
    refine ⟨by omega, ?_⟩
    have each : ∀ i, i < len → ∃ q : Value × List Pol, w.cell? (a.add i) = some q.1 ∧ LabVal w q.1 q.2 := by
      intro i hi
      obtain ⟨cs', h1, h2⟩ := hx i (by omega)
      rw [Tryz.cellsLabB] at h1
      obtain ⟨_, hlen, hcell⟩ := World.cells?_some h1
      match cs', hlen with
      | [v0], _ =>
        obtain ⟨l, hl⟩ := labV_open h2
        have c0 := hcell 0 (by omega)
        rw [add_add] at c0
        exact ⟨(v0, l), by simpa using c0, hl⟩
    obtain ⟨q, hq⟩ := choose_lt each
    obtain ⟨b, off, spot⟩ := a
    have hspot : 0 < len → spot = none := fun hp => by simpa [Addr.add] using World.cell?_spot (hq 0 hp).1
    have hadd : ∀ j, 0 < len → (⟨b, off, spot⟩ : Addr).add j = ⟨b, off + j, none⟩ := fun j hp => by rw [hspot hp]; simp [Addr.add]
    refine ⟨b, off, (List.range len).map fun i => (q i).2, by simp, ⟨fun hp => ?_, fun k hk => ?_⟩⟩
    · simp at hp; rw [hspot hp]
    · simp at hk
      have := hq k hk
      rw [hadd _ (by omega)] at this
      exact ⟨_, this.1, by simpa using this.2⟩

set_option maxRecDepth 100000 in
theorem bounds_open {H : Type} {enc : TypeId × Value → H} {w : World} {fuel : Nat} {x : DataW H × List MemPlace} {ao : Option Addr} {len cap : Nat} (h : DataW.trod enc Tryz.prog w 0 (fun _ => true) true fuel 24 [.slice ao len cap] = some x) :
    len ≤ maxLen ∧ ∃ b off l, len = l.length ∧ Bds w ao b off l := by
  rcases open_slice Tryz.underlying24 h with ⟨hcs, _⟩ | ⟨a, len', cap', m, n, D, Pl, hcs, _, hl, hm, hmm, _, hx⟩
  · simp at hcs
    obtain ⟨rfl, rfl, rfl⟩ := hcs
    exact ⟨Nat.zero_le _, 0, 0, [], rfl, ⟨fun h => by simp at h, fun k h => by simp at h⟩⟩
  · simp at hcs
    obtain ⟨rfl, rfl, rfl⟩ := hcs
    have hlm : len ≤ m := by rw [hmm]; split <;> omega
    refine ⟨by omega, ?_⟩
    have each : ∀ i, i < len → ∃ q : RBd, (∃ v, w.cell? (a.add (i * 6)) = some v ∧ IntsAt w v q.src) ∧ (∃ v, w.cell? (a.add (i * 6 + 1)) = some v ∧ LabVal w v q.lab) ∧ w.cell? (a.add (i * 6 + 2)) = some (.int .i64 q.dst) ∧ (∃ v, w.cell? (a.add (i * 6 + 3)) = some v ∧ LabVal w v q.into) ∧ w.cell? (a.add (i * 6 + 4)) = some (.int .i64 q.pos) ∧ ∃ v, w.cell? (a.add (i * 6 + 5)) = some v ∧ ReadersAt w v q.by_ := by
      intro i hi
      obtain ⟨cs', h1, h2⟩ := hx i (by omega)
      rw [Tryz.cellsBdB] at h1
      obtain ⟨_, hlen, hcell⟩ := World.cells?_some h1
      obtain ⟨y0, y1, y2, y3, y4, y5, n', g0, g1, g2, g3, g4, g5⟩ := trod_six Tryz.underlying60 h2
      match cs', hlen with
      | [v0, v1, v2, v3, v4, v5], _ =>
        simp only [Tryz.cellsLabB, Tryz.cellsIntB, Tryz.cellsIntsB, Tryz.cellsSlL] at g0 g1 g2 g3 g4 g5
        obtain ⟨z2, e2, _, _⟩ := DataW.trod_int Tryz.underlying3 g2
        obtain ⟨z4, e4, _, _⟩ := DataW.trod_int Tryz.underlying3 g4
        simp at e2 e4
        subst e2 e4
        obtain ⟨x0, hx0⟩ := intsV_open (v := v0) (by simpa using g0)
        obtain ⟨x1, hx1⟩ := labV_open (v := v1) (by simpa using g1)
        obtain ⟨x3, hx3⟩ := labV_open (v := v3) (by simpa using g3)
        obtain ⟨x5, hx5, _⟩ := readers_open (v := v5) (by simpa using g5)
        have c0 := hcell 0 (by omega)
        have c1 := hcell 1 (by omega)
        have c2 := hcell 2 (by omega)
        have c3 := hcell 3 (by omega)
        have c4 := hcell 4 (by omega)
        have c5 := hcell 5 (by omega)
        rw [add_add] at c0 c1 c2 c3 c4 c5
        exact ⟨⟨x0, x1, z2, x3, z4, x5⟩, ⟨v0, by simpa using c0, hx0⟩, ⟨v1, by simpa using c1, hx1⟩, by simpa using c2, ⟨v3, by simpa using c3, hx3⟩, by simpa using c4, v5, by simpa using c5, hx5⟩
    obtain ⟨q, hq⟩ := choose_lt each
    obtain ⟨b, off, spot⟩ := a
    have hspot : 0 < len → spot = none := fun hp => by
      obtain ⟨v, hc, _⟩ := (hq 0 hp).1
      simpa [Addr.add] using World.cell?_spot hc
    have hadd : ∀ j, 0 < len → (⟨b, off, spot⟩ : Addr).add j = ⟨b, off + j, none⟩ := fun j hp => by rw [hspot hp]; simp [Addr.add]
    refine ⟨b, off, (List.range len).map q, by simp, ⟨fun hp => ?_, fun k hk => ?_⟩⟩
    · simp at hp; rw [hspot hp]
    · simp at hk
      obtain ⟨⟨v0, c0, d0⟩, ⟨v1, c1, d1⟩, c2, ⟨v3, c3, d3⟩, c4, ⟨v5, c5, d5⟩⟩ := hq k hk
      rw [hadd _ (by omega)] at c0 c1 c2 c3 c4 c5
      simp only [← Nat.add_assoc] at c1 c2 c3 c4 c5
      have e : ((List.range len).map q)[k]'(by simpa using hk) = q k := by simp
      rw [e]
      exact ⟨⟨v0, c0, d0⟩, ⟨v1, c1, d1⟩, c2, ⟨v3, c3, d3⟩, c4, ⟨v5, c5, d5⟩, World.block_lt_of_cell? w _ c2⟩
end Go.Proofs.YtpbknhhjfhpkmaaGreatDoor
