/-
  DERIVED. GIVEN WITH THE SEED: THE CARDS: each row of YtjidnkecjkngnaaDoorRows.lean that lists a variable, with what it lists TIED to the program's text (the seventh form; the later family's looks); each row that meets fmt, with fmt's text TOLD by the authors' own Lean function (tested against real Go, not proved from fmt's source: count such statements apart). THE CARD IS WHAT COUNTS. Prove the row's statement (the work); the ties are given (YtjidnkecjkngnaaDoorTie.lean); close each card by the builder's one call (the guide's Derived/Test/ToyasCard.lean, 'card_holds'). Laid BY PROGRAM, IN A SANDBOX (cutbox-door.mjs). By AI agents, Wed Nov 11 2026. No macro, syntax, notation, axiom, sorry.
-/
import Derived.Test.YtjidnkecjkngnaaDoorRows
import GoSem.ClaimSeven
namespace Go.Proofs.YtjidnkecjkngnaaDoor
namespace Rows

/-- THE TIED CARD OF 'cloisterlaw.LabelFlows'. -/
def labelFlowsCard : Claim7 := { stood := { row := labelFlowsRow, standIns := [], harness := (true, "c5b7ee19a98f193449c63192f6d0cf923592fa26b4fa53ee09ff6c3ebef37a07"), looks := false }, kinds := [], alts := [], laidByText := true, laidKinds := [.data, .pinned], laidTests := true, laidLooks := .later }
def LabelFlowsCardSaid : Prop := Claim7.holds Tryd.pinned (.plain (OpenSpec.ofChange labelFlowsSpec)) labelFlowsCard

/-- THE SECOND FORM's CARD OF 'cloisterlaw.LabelFlows'. -/
def labelFlowsUptoCard : Claim7 := { stood := { row := labelFlowsUptoRow, standIns := [], harness := (true, "c5b7ee19a98f193449c63192f6d0cf923592fa26b4fa53ee09ff6c3ebef37a07"), looks := false }, kinds := [], alts := [], laidByText := true, laidKinds := [.data, .pinned], laidTests := true, laidLooks := .later }
def LabelFlowsUptoCardSaid : Prop := Claim7.holds Tryd.pinned (.plain (OpenSpec.upto labelFlowsSpec)) labelFlowsUptoCard
end Rows
end Go.Proofs.YtjidnkecjkngnaaDoor
