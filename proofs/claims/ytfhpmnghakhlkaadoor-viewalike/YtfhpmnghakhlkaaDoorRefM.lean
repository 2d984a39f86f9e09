/- A label whose names are chiefs. -/
import Derived.Test.YtfhpmnghakhlkaaDoorRefL
namespace Go.Proofs.YtfhpmnghakhlkaaDoor
open Go.RowKit

/- A label whose names are chiefs. -/
structure Good (w : World) (ao : Option Addr) (b off n : Nat) (ls : List ByteArray) (x : List Pol) : Prop where
  ln : n = x.length
  few : n ≤ 1000
  pols : Pols w ao b off x
  of : Lab.OfL ls x
  rd : ∀ p ∈ x, p.2.length ≤ 1000
theorem Good.later {w w' : World} {ao : Option Addr} {b off n : Nat} {ls : List ByteArray} {x : List Pol} (h : Good w ao b off n ls x) (hb : Below w.heap.size w w') : Good w' ao b off n ls x := ⟨h.ln, h.few, h.pols.later hb, h.of, h.rd⟩

end Go.Proofs.YtfhpmnghakhlkaaDoor
