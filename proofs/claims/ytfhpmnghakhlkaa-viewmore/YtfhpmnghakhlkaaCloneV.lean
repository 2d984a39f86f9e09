/- strings.Clone, of a text as long as one can be. -/
import Derived.Test.YtfhpmnghakhlkaaShelf
import Derived.Test.YtfhpmnghakhlkaaChecked
import Derived.WalkKit
import Derived.ProofKit
namespace Go.Proofs.Ytfhpmnghakhlkaa
open Go.RowKit
theorem cloneW (s : ByteArray) (w : World) (hs : s.size ≤ 281474976710656) :
    Calls Try.prog 25 #[.string s] w fun e w' => e = .returned (.string s) ∧ Below w.heap.size w w' := by
  go_enter Try.func25, Try.ntmps25
  go_wp2_with (go_at_call 33; refine (Try.stringslite_Clone _ _ (by omega)).mono ?_; rintro e w' ⟨rfl, hb⟩)
  go_ret
  exact ⟨rfl, hb⟩
end Go.Proofs.Ytfhpmnghakhlkaa
