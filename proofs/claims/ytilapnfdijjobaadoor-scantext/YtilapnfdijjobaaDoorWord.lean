/- Contract of scan.Word. -/
import Derived.Test.YtilapnfdijjobaaDoorRun
namespace Go.Proofs.YtilapnfdijjobaaDoor
open Go.RowKit

set_option maxHeartbeats 1000000 in
theorem word_any (s : ByteArray) (w : World) :
    Calls Tryd.prog 10 #[.string s] w fun e w' => e = .returned (.bool (Lex.wordB s.toList)) ∧ w' = w := by
  go_enter Tryd.func10, Tryd.ntmps10
  go_wp2
  all_goals first
    | (exfalso; simp_all; done)
    | (go_ret; exact ⟨congrArg (fun b => Ending.returned (.bool b)) (Lex.word_yes (by assumption) rfl).symm, rfl⟩)
    | (go_ret; exact ⟨congrArg (fun b => Ending.returned (.bool b)) (show false = Lex.wordB s.toList by simp only [Lex.wordB, Bool.or_self, *]), rfl⟩)
end Go.Proofs.YtilapnfdijjobaaDoor
