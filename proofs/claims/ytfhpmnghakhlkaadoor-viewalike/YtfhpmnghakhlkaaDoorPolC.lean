/- Rows of policies: an owner and a slice of readers each. -/
import Derived.Test.YtfhpmnghakhlkaaDoorCStr
import Derived.Test.YtfhpmnghakhlkaaDoorLab
namespace Go.Proofs.YtfhpmnghakhlkaaDoor
open Go.RowKit

/- A policy's readers lie somewhere. -/
def ReadersAt (w : World) (v : Value) (rs : List ByteArray) : Prop := ∃ ro rb roff rc, v = .slice ro rs.length rc ∧ rs.length ≤ rc ∧ rc ≤ maxLen ∧ Strs w ro rb roff rs
theorem ReadersAt.later {w w' : World} {v : Value} {rs : List ByteArray} (h : ReadersAt w v rs) (hb : Below w.heap.size w w') : ReadersAt w' v rs := by
  obtain ⟨ro, rb, roff, rc, h1, h2, h3, h4⟩ := h
  exact ⟨ro, rb, roff, rc, h1, h2, h3, h4.later hb⟩
structure Pols (w : World) (ao : Option Addr) (b off : Nat) (x : List (ByteArray × List ByteArray)) : Prop where
  adr : 0 < x.length → ao = some ⟨b, off, none⟩
  c0 : ∀ k (h : k < x.length), w.cell? ⟨b, off + k * 2, none⟩ = some (.string x[k].1)
  c1 : ∀ k (h : k < x.length), ∃ v, w.cell? ⟨b, off + k * 2 + 1, none⟩ = some v ∧ ReadersAt w v x[k].2
  lt : 0 < x.length → b < w.heap.size
theorem Pols.later {w w' : World} {ao : Option Addr} {b off : Nat} {x : List (ByteArray × List ByteArray)} (h : Pols w ao b off x) (hb : Below w.heap.size w w') : Pols w' ao b off x := by
  refine ⟨h.adr, fun k hk => (hb.cell (p := ⟨b, off + k * 2, none⟩) (h.lt (by omega))).trans (h.c0 k hk), fun k hk => ?_, fun hn => Nat.lt_of_lt_of_le (h.lt hn) hb.size⟩
  obtain ⟨v, h1, h2⟩ := h.c1 k hk
  exact ⟨v, (hb.cell (p := ⟨b, off + k * 2 + 1, none⟩) (h.lt (by omega))).trans h1, h2.later hb⟩
end Go.Proofs.YtfhpmnghakhlkaaDoor
