/-
  DERIVED. GIVEN WITH THE SEED: THE CARDS: each row of YtfhpmnghakhlkaaDoorRows.lean that lists a variable, with what it lists TIED to the program's text (the seventh form; the later family's looks); each row that meets fmt, with fmt's text TOLD by the authors' own Lean function (tested against real Go, not proved from fmt's source: count such statements apart). THE CARD IS WHAT COUNTS. Prove the row's statement (the work); the ties are given (YtfhpmnghakhlkaaDoorTie.lean); close each card by the builder's one call (the guide's Derived/Test/ToyasCard.lean, 'card_holds'). Laid BY PROGRAM, IN A SANDBOX (cutbox-door.mjs). By AI agents, Wed Nov 11 2026. No macro, syntax, notation, axiom, sorry.
-/
import Derived.Test.YtfhpmnghakhlkaaDoorRows
import GoSem.ClaimSeven
namespace Go.Proofs.YtfhpmnghakhlkaaDoor
namespace Rows

/-- THE TIED CARD OF 'cloisterlaw.ViewSeen'. -/
def viewSeenCard : Claim7 := { stood := { row := viewSeenRow, standIns := [], harness := (true, "438e36550cc06cd6e588df5099b92e0ed4732338925d77c1b0f5fae1e1823e0d"), looks := false }, kinds := [], alts := [], laidByText := true, laidKinds := [.data, .pinned], laidTests := true, laidLooks := .later }
def ViewSeenCardSaid : Prop := Claim7.holds Tryd.pinned (.plain (OpenSpec.ofChange viewSeenSpec)) viewSeenCard

/-- THE TIED CARD OF 'cloisterlaw.ViewAlike'. -/
def viewAlikeCard : Claim7 := { stood := { row := viewAlikeRow, standIns := [], harness := (true, "438e36550cc06cd6e588df5099b92e0ed4732338925d77c1b0f5fae1e1823e0d"), looks := false }, kinds := [], alts := [], laidByText := true, laidKinds := [.data, .pinned], laidTests := true, laidLooks := .later }
def ViewAlikeCardSaid : Prop := Claim7.holds Tryd.pinned (.plain (OpenSpec.ofChange viewAlikeSpec)) viewAlikeCard

/-- THE SECOND FORM's CARD OF 'cloisterlaw.ViewSeen'. -/
def viewSeenUptoCard : Claim7 := { stood := { row := viewSeenUptoRow, standIns := [], harness := (true, "438e36550cc06cd6e588df5099b92e0ed4732338925d77c1b0f5fae1e1823e0d"), looks := false }, kinds := [], alts := [], laidByText := true, laidKinds := [.data, .pinned], laidTests := true, laidLooks := .later }
def ViewSeenUptoCardSaid : Prop := Claim7.holds Tryd.pinned (.plain (OpenSpec.upto viewSeenSpec)) viewSeenUptoCard

/-- THE SECOND FORM's CARD OF 'cloisterlaw.ViewAlike'. -/
def viewAlikeUptoCard : Claim7 := { stood := { row := viewAlikeUptoRow, standIns := [], harness := (true, "438e36550cc06cd6e588df5099b92e0ed4732338925d77c1b0f5fae1e1823e0d"), looks := false }, kinds := [], alts := [], laidByText := true, laidKinds := [.data, .pinned], laidTests := true, laidLooks := .later }
def ViewAlikeUptoCardSaid : Prop := Claim7.holds Tryd.pinned (.plain (OpenSpec.upto viewAlikeSpec)) viewAlikeUptoCard
end Rows
end Go.Proofs.YtfhpmnghakhlkaaDoor
