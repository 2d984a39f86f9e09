/- A slice of tokens that came in, opened: its cells. -/
import Derived.Test.YtmnjoemglpapfaaChecked
import Derived.Test.YtmnjoemglpapfaaJoin
import Derived.WalkKit
import Derived.ProofKit
import Derived.OpenShut
import Derived.Deep.Slices
import Derived.Deep.Strs
namespace Go.Proofs.Ytmnjoemglpapfaa
open Go.RowKit Go.ChangeShapes Go.WideShapes Go.Deep

theorem Try.cellsTok : Try.prog.cellsOf 31 = 3 := by kernel_rfl
theorem Try.cellsInt : Try.prog.cellsOf 3 = 1 := by kernel_rfl
theorem Try.cellsStr : Try.prog.cellsOf 9 = 1 := by kernel_rfl

theorem toks_open {H : Type} {enc : TypeId × Value → H} {w : World} {fuel : Nat} {x : DataW H × List MemPlace} {ao : Option Addr} {len cap : Nat} (h : DataW.trod enc Try.prog w 0 (fun _ => true) true fuel 27 [.slice ao len cap] = some x) :
    len ≤ maxLen ∧ ∃ b off K Q T, Toks w ao b off len K Q T ∧ ∀ k, k < len → (T k).size ≤ maxLen := by
  rcases open_slice Try.underlying27 h with ⟨hcs, _⟩ | ⟨a, len', cap', m, n, D, Pl, hcs, _, hl, hm, hmm, _, hx⟩
  · simp at hcs
    obtain ⟨rfl, rfl, rfl⟩ := hcs
    exact ⟨Nat.zero_le _, 0, 0, fun _ => 0, fun _ => 0, fun _ => ⟨#[]⟩, ⟨fun h => by omega, fun k h => by omega, fun k h => by omega, fun k h => by omega, fun h => by omega⟩, fun k h => by omega⟩
  · simp at hcs
    obtain ⟨rfl, rfl, rfl⟩ := hcs
    have hlm : len ≤ m := by rw [hmm]; split <;> omega
    refine ⟨by omega, ?_⟩
    have each : ∀ i, i < len → ∃ q : Int × Int × ByteArray, w.cell? (a.add (i * 3)) = some (.int .i64 q.1) ∧ w.cell? (a.add (i * 3 + 1)) = some (.int .i64 q.2.1) ∧ w.cell? (a.add (i * 3 + 2)) = some (.string q.2.2) ∧ q.2.2.size ≤ maxLen := by
      intro i hi
      obtain ⟨cs', h1, h2⟩ := hx i (by omega)
      rw [Try.cellsTok] at h1
      obtain ⟨_, hlen, hcell⟩ := World.cells?_some h1
      obtain ⟨y0, y1, y2, n', _, _, g0, g1, g2⟩ := trod_struct3 Try.underlying31 h2
      match cs', hlen with
      | [v0, v1, v2], _ =>
        simp only [Try.cellsInt, Try.cellsStr] at g0 g1 g2
        obtain ⟨k0, e0, _, _⟩ := DataW.trod_int Try.underlying3 g0
        obtain ⟨k1, e1, _, _⟩ := DataW.trod_int Try.underlying3 g1
        obtain ⟨s, e2, _, hs⟩ := DataW.trod_string Try.underlying9 g2
        simp at e0 e1 e2
        subst e0 e1 e2
        have c0 := hcell 0 (by omega)
        have c1 := hcell 1 (by omega)
        have c2 := hcell 2 (by omega)
        rw [add_add] at c0 c1 c2
        exact ⟨(k0, k1, s), by simpa using c0, by simpa using c1, by simpa using c2, hs⟩
    obtain ⟨q, hq⟩ := choose_lt each
    obtain ⟨b, off, spot⟩ := a
    have hspot : 0 < len → spot = none := fun hp => by simpa [Addr.add] using World.cell?_spot (hq 0 hp).1
    have hadd : ∀ j, 0 < len → (⟨b, off, spot⟩ : Addr).add j = ⟨b, off + j, none⟩ := fun j hp => by rw [hspot hp]; simp [Addr.add]
    refine ⟨b, off, fun i => (q i).1, fun i => (q i).2.1, fun i => (q i).2.2, ⟨fun hp => by rw [hspot hp], fun k hk => ?_, fun k hk => ?_, fun k hk => ?_, fun hp => ?_⟩, fun k hk => (hq k hk).2.2.2⟩
    · have := (hq k hk).1; rwa [hadd _ (by omega)] at this
    · have := (hq k hk).2.1; rw [hadd _ (by omega), ← Nat.add_assoc] at this; exact this
    · have := (hq k hk).2.2.1; rw [hadd _ (by omega), ← Nat.add_assoc] at this; exact this
    · have := (hq 0 hp).1
      rw [hadd _ hp] at this
      exact World.block_lt_of_cell? w _ this
end Go.Proofs.Ytmnjoemglpapfaa
