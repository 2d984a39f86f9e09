/- strings.Clone, of a text as long as one can be. -/
import Derived.Test.YtfhpmnghakhlkaaDoorShelf
import Derived.Test.YtfhpmnghakhlkaaDoorChecked
import Derived.WalkKit
import Derived.ProofKit
namespace Go.Proofs.YtfhpmnghakhlkaaDoor
open Go.RowKit
theorem cloneW (s : ByteArray) (w : World) (hs : s.size ≤ 281474976710656) :
    Calls Tryd.prog 36 #[.string s] w fun e w' => e = .returned (.string s) ∧ Below w.heap.size w w' := by
  go_enter Tryd.func36, Tryd.ntmps36
  go_wp2_with (go_at_call 49; refine (Tryd.stringslite_Clone _ _ (by omega)).mono ?_; rintro e w' ⟨rfl, hb⟩)
  go_ret
  exact ⟨rfl, hb⟩
end Go.Proofs.YtfhpmnghakhlkaaDoor
