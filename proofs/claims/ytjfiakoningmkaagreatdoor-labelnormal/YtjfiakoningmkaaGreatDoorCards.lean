/-
  DERIVED. GIVEN WITH THE SEED: THE CARDS: each row of YtjfiakoningmkaaGreatDoorRows.lean that lists a variable, with what it lists TIED to the program's text (the seventh form; the later family's looks); each row that meets fmt, with fmt's text TOLD by the authors' own Lean function (tested against real Go, not proved from fmt's source: count such statements apart). THE CARD IS WHAT COUNTS. Prove the row's statement (the work); the ties are given (YtjfiakoningmkaaGreatDoorTie.lean); close each card by the builder's one call (the guide's Derived/Test/ToyasCard.lean, 'card_holds'). Laid BY PROGRAM, IN A SANDBOX (cutbox-door.mjs). By AI agents, Wed Nov 11 2026. No macro, syntax, notation, axiom, sorry.
-/
import Derived.Test.YtjfiakoningmkaaGreatDoorRows
import GoSem.ClaimSeven
namespace Go.Proofs.YtjfiakoningmkaaGreatDoor
namespace Rows

/-- THE TIED CARD OF 'cloisterlaw.LabelNormal'. -/
def labelNormalCard : Claim7 := { stood := { row := labelNormalRow, standIns := [], harness := (true, "1b4a4cfd6894d7104bf6e73b43ba9b46e8bc058bddcf5828b2ce933d5c17cd88"), looks := false }, kinds := [], alts := [], laidByText := true, laidKinds := [.data, .pinned], laidTests := true, laidLooks := .later }
def LabelNormalCardSaid : Prop := Claim7.holds Tryz.pinned (.plain (OpenSpec.ofChange labelNormalSpec)) labelNormalCard

/-- THE SECOND FORM's CARD OF 'cloisterlaw.LabelNormal'. -/
def labelNormalUptoCard : Claim7 := { stood := { row := labelNormalUptoRow, standIns := [], harness := (true, "1b4a4cfd6894d7104bf6e73b43ba9b46e8bc058bddcf5828b2ce933d5c17cd88"), looks := false }, kinds := [], alts := [], laidByText := true, laidKinds := [.data, .pinned], laidTests := true, laidLooks := .later }
def LabelNormalUptoCardSaid : Prop := Claim7.holds Tryz.pinned (.plain (OpenSpec.upto labelNormalSpec)) labelNormalUptoCard
end Rows
end Go.Proofs.YtjfiakoningmkaaGreatDoor
