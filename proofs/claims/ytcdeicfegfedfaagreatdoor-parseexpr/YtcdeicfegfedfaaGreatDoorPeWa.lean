/- The witness of ParseExpr's row: each place is met once. -/
import Derived.Test.YtcdeicfegfedfaaGreatDoorPeV
import Derived.WalkKit
import Derived.ProofKit
import Derived.OpenShut
import Derived.ShutString
import Derived.ChangeOld
import Derived.SizedLaws
import Derived.Below
import Derived.Deep.DeepHandedRow
import Derived.Deep.DeepWitnessRowRef
import Derived.Lib.LaidTab
import Derived.Lib.LaidU8
import Derived.Shelf.Vars
import Derived.Deep.DeepLaidRun
import Derived.Lib.Space
namespace Go.Proofs.YtcdeicfegfedfaaGreatDoor.parseExpr
open Go.ChangeShapes Go.WideShapes Go.ChangeAt Go.RowKit

theorem laid_once (os : Os) : (DataW.laidRun Tryz.prog ((laidWorld os).forCall (fun _ _ => 0) ⟨#[], #[.string ⟨#[]⟩], []⟩).memory 8 (Rows.parseExprRow.laid.map (·.1))).map (fun x => nodupB (x.2.map MemPlace.codeOf)) = some true := by kernel_rfl
end Go.Proofs.YtcdeicfegfedfaaGreatDoor.parseExpr
