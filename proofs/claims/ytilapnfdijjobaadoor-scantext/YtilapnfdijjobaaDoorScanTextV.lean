/- The witness of ScanText's row: a world that holds the library's four tables. -/
import Derived.Test.YtilapnfdijjobaaDoorCards
import Derived.WalkKit
import Derived.ProofKit
import Derived.OpenShut
import Derived.ShutString
import Derived.ChangeOld
import Derived.SizedLaws
import Derived.Below
import Derived.Deep.DeepHandedRow
import Derived.Deep.DeepWitnessRowRef
import Derived.Lib.LaidTab
import Derived.Lib.LaidU8
import Derived.Shelf.Vars
import Derived.Deep.DeepLaidRun
import Derived.Lib.Space
namespace Go.Proofs.YtilapnfdijjobaaDoor.scanText
open Go.ChangeShapes Go.WideShapes Go.ChangeAt Go.RowKit
open Go.ChangeMaps (open_string shut_string)

/- A world for the witness: the settled one, the four tables holding what the library's text lays. -/
def rangesC : Array Value := #[.int .u8 128, .int .u8 191, .int .u8 160, .int .u8 191, .int .u8 128, .int .u8 159, .int .u8 144, .int .u8 191, .int .u8 128, .int .u8 143, .int .u8 0, .int .u8 0, .int .u8 0, .int .u8 0, .int .u8 0, .int .u8 0, .int .u8 0, .int .u8 0, .int .u8 0, .int .u8 0, .int .u8 0, .int .u8 0, .int .u8 0, .int .u8 0, .int .u8 0, .int .u8 0, .int .u8 0, .int .u8 0, .int .u8 0, .int .u8 0, .int .u8 0, .int .u8 0]
def firstC : Array Value := (Go.Pinned.utf8FirstZ.map fun n : Nat => Value.int .u8 (n : Int)).toArray
def spaceC : Array Value := (Lib.asciiSpaceTab.map fun z => Value.int .u8 z).toArray
def whiteC : Array Value := #[.int .u16 9, .int .u16 13, .int .u16 1, .int .u16 32, .int .u16 133, .int .u16 101, .int .u16 160, .int .u16 5760, .int .u16 5600, .int .u16 8192, .int .u16 8202, .int .u16 1, .int .u16 8232, .int .u16 8233, .int .u16 1, .int .u16 8239, .int .u16 8287, .int .u16 48, .int .u16 12288, .int .u16 12288, .int .u16 1]
def lay (c : Array Value) : Obj → Obj
  | .cells _ t frozen => .cells c t frozen
  | o => o
noncomputable def settled (os : Os) : World := World.holding Tryd.prog os ⟨#[], #[], []⟩
noncomputable def laidWorld (os : Os) : World :=
  { settled os with heap := ((((((settled os).heap.modify 4 (lay rangesC)).modify 3 (lay firstC)).modify 0 (lay spaceC)).modify 1 (lay #[.pointer (some ⟨(settled os).heap.size, 0, none⟩)])).push (.cells #[.slice (some ⟨(settled os).heap.size + 1, 0, none⟩) 7 7, .slice none 0 0, .int .i64 2] 111)).push (.cells whiteC 114) }
theorem laid_reads (os : Os) : (DataW.laidRun Tryd.prog ((laidWorld os).forCall (fun _ _ => 0) ⟨#[], #[.string ⟨#[]⟩, .string ⟨#[]⟩], []⟩).memory 8 (Rows.scanTextRow.laid.map (·.1))).map (·.1) = some Rows.scanTextRow.laid := by kernel_rfl
end Go.Proofs.YtilapnfdijjobaaDoor.scanText
