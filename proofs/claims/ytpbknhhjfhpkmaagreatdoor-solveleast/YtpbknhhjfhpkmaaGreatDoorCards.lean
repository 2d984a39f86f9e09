/-
  DERIVED. GIVEN WITH THE SEED: THE CARDS: each row of YtpbknhhjfhpkmaaGreatDoorRows.lean that lists a variable, with what it lists TIED to the program's text (the seventh form; the later family's looks); each row that meets fmt, with fmt's text TOLD by the authors' own Lean function (tested against real Go, not proved from fmt's source: count such statements apart). THE CARD IS WHAT COUNTS. Prove the row's statement (the work); the ties are given (YtpbknhhjfhpkmaaGreatDoorTie.lean); close each card by the builder's one call (the guide's Derived/Test/ToyasCard.lean, 'card_holds'). Laid BY PROGRAM, IN A SANDBOX (cutbox-door.mjs). By AI agents, Wed Nov 11 2026. No macro, syntax, notation, axiom, sorry.
-/
import Derived.Test.YtpbknhhjfhpkmaaGreatDoorRows
import GoSem.ClaimSeven
namespace Go.Proofs.YtpbknhhjfhpkmaaGreatDoor
namespace Rows

/-- THE TIED CARD OF 'cloisterlaw.SolveLeast'. -/
def solveLeastCard : Claim7 := { stood := { row := solveLeastRow, standIns := [], harness := (true, "34fab1843369ed7caf3e7fe7719e76ca99e3eb17a2c0e31fd8cbd835ae535103"), looks := false }, kinds := [], alts := [], laidByText := true, laidKinds := [.data, .data, .pinned], laidTests := true, laidLooks := .later }
def SolveLeastCardSaid : Prop := Claim7.holds Tryz.pinned (.plain (OpenSpec.ofChange solveLeastSpec)) solveLeastCard

/-- THE TIED CARD OF 'cloisterlaw.SolveBroken'. -/
def solveBrokenCard : Claim7 := { stood := { row := solveBrokenRow, standIns := [], harness := (true, "34fab1843369ed7caf3e7fe7719e76ca99e3eb17a2c0e31fd8cbd835ae535103"), looks := false }, kinds := [], alts := [], laidByText := true, laidKinds := [.data, .data, .pinned], laidTests := true, laidLooks := .later }
def SolveBrokenCardSaid : Prop := Claim7.holds Tryz.pinned (.plain (OpenSpec.ofChange solveBrokenSpec)) solveBrokenCard

/-- THE SECOND FORM's CARD OF 'cloisterlaw.SolveLeast'. -/
def solveLeastUptoCard : Claim7 := { stood := { row := solveLeastUptoRow, standIns := [], harness := (true, "34fab1843369ed7caf3e7fe7719e76ca99e3eb17a2c0e31fd8cbd835ae535103"), looks := false }, kinds := [], alts := [], laidByText := true, laidKinds := [.data, .data, .pinned], laidTests := true, laidLooks := .later }
def SolveLeastUptoCardSaid : Prop := Claim7.holds Tryz.pinned (.plain (OpenSpec.upto solveLeastSpec)) solveLeastUptoCard

/-- THE SECOND FORM's CARD OF 'cloisterlaw.SolveBroken'. -/
def solveBrokenUptoCard : Claim7 := { stood := { row := solveBrokenUptoRow, standIns := [], harness := (true, "34fab1843369ed7caf3e7fe7719e76ca99e3eb17a2c0e31fd8cbd835ae535103"), looks := false }, kinds := [], alts := [], laidByText := true, laidKinds := [.data, .data, .pinned], laidTests := true, laidLooks := .later }
def SolveBrokenUptoCardSaid : Prop := Claim7.holds Tryz.pinned (.plain (OpenSpec.upto solveBrokenSpec)) solveBrokenUptoCard
end Rows
end Go.Proofs.YtpbknhhjfhpkmaaGreatDoor
