/-
  DERIVED. GIVEN WITH THE SEED: THE CARDS: each row of YtnligpcfkmdjeaaGreatDoorRows.lean that lists a variable, with what it lists TIED to the program's text (the seventh form; the later family's looks); each row that meets fmt, with fmt's text TOLD by the authors' own Lean function (tested against real Go, not proved from fmt's source: count such statements apart). THE CARD IS WHAT COUNTS. Prove the row's statement (the work); the ties are given (YtnligpcfkmdjeaaGreatDoorTie.lean); close each card by the builder's one call (the guide's Derived/Test/ToyasCard.lean, 'card_holds'). Laid BY PROGRAM, IN A SANDBOX (cutbox-door.mjs). By AI agents, Wed Nov 11 2026. No macro, syntax, notation, axiom, sorry.
-/
import Derived.Test.YtnligpcfkmdjeaaGreatDoorRows
import GoSem.ClaimSeven
namespace Go.Proofs.YtnligpcfkmdjeaaGreatDoor
namespace Rows

/-- THE TIED CARD OF 'cloisterlaw.SolveLeast'. -/
def solveLeastCard : Claim7 := { stood := { row := solveLeastRow, standIns := [], harness := (true, "3e4e8d3346f72ab65e2f4802f9af5181f18ff23daaadbe53306a4f7a90a225cc"), looks := false }, kinds := [], alts := [], laidByText := true, laidKinds := [.data, .data, .pinned], laidTests := true, laidLooks := .later }
def SolveLeastCardSaid : Prop := Claim7.holds Tryz.pinned (.plain (OpenSpec.ofChange solveLeastSpec)) solveLeastCard

/-- THE TIED CARD OF 'cloisterlaw.SolveBroken'. -/
def solveBrokenCard : Claim7 := { stood := { row := solveBrokenRow, standIns := [], harness := (true, "3e4e8d3346f72ab65e2f4802f9af5181f18ff23daaadbe53306a4f7a90a225cc"), looks := false }, kinds := [], alts := [], laidByText := true, laidKinds := [.data, .data, .pinned], laidTests := true, laidLooks := .later }
def SolveBrokenCardSaid : Prop := Claim7.holds Tryz.pinned (.plain (OpenSpec.ofChange solveBrokenSpec)) solveBrokenCard

/-- THE TIED CARD OF 'cloisterlaw.SolveHolds'. -/
def solveHoldsCard : Claim7 := { stood := { row := solveHoldsRow, standIns := [], harness := (true, "3e4e8d3346f72ab65e2f4802f9af5181f18ff23daaadbe53306a4f7a90a225cc"), looks := false }, kinds := [], alts := [], laidByText := true, laidKinds := [.data], laidTests := true, laidLooks := .later }
def SolveHoldsCardSaid : Prop := Claim7.holds Tryz.pinned (.plain (OpenSpec.ofChange solveHoldsSpec)) solveHoldsCard

/-- THE TIED CARD OF 'cloisterlaw.SolveTurned'. -/
def solveTurnedCard : Claim7 := { stood := { row := solveTurnedRow, standIns := [], harness := (true, "3e4e8d3346f72ab65e2f4802f9af5181f18ff23daaadbe53306a4f7a90a225cc"), looks := false }, kinds := [], alts := [], laidByText := true, laidKinds := [.data], laidTests := true, laidLooks := .later }
def SolveTurnedCardSaid : Prop := Claim7.holds Tryz.pinned (.plain (OpenSpec.ofChange solveTurnedSpec)) solveTurnedCard

/-- THE SECOND FORM's CARD OF 'cloisterlaw.SolveLeast'. -/
def solveLeastUptoCard : Claim7 := { stood := { row := solveLeastUptoRow, standIns := [], harness := (true, "3e4e8d3346f72ab65e2f4802f9af5181f18ff23daaadbe53306a4f7a90a225cc"), looks := false }, kinds := [], alts := [], laidByText := true, laidKinds := [.data, .data, .pinned], laidTests := true, laidLooks := .later }
def SolveLeastUptoCardSaid : Prop := Claim7.holds Tryz.pinned (.plain (OpenSpec.upto solveLeastSpec)) solveLeastUptoCard

/-- THE SECOND FORM's CARD OF 'cloisterlaw.SolveBroken'. -/
def solveBrokenUptoCard : Claim7 := { stood := { row := solveBrokenUptoRow, standIns := [], harness := (true, "3e4e8d3346f72ab65e2f4802f9af5181f18ff23daaadbe53306a4f7a90a225cc"), looks := false }, kinds := [], alts := [], laidByText := true, laidKinds := [.data, .data, .pinned], laidTests := true, laidLooks := .later }
def SolveBrokenUptoCardSaid : Prop := Claim7.holds Tryz.pinned (.plain (OpenSpec.upto solveBrokenSpec)) solveBrokenUptoCard

/-- THE SECOND FORM's CARD OF 'cloisterlaw.SolveHolds'. -/
def solveHoldsUptoCard : Claim7 := { stood := { row := solveHoldsUptoRow, standIns := [], harness := (true, "3e4e8d3346f72ab65e2f4802f9af5181f18ff23daaadbe53306a4f7a90a225cc"), looks := false }, kinds := [], alts := [], laidByText := true, laidKinds := [.data], laidTests := true, laidLooks := .later }
def SolveHoldsUptoCardSaid : Prop := Claim7.holds Tryz.pinned (.plain (OpenSpec.upto solveHoldsSpec)) solveHoldsUptoCard

/-- THE SECOND FORM's CARD OF 'cloisterlaw.SolveTurned'. -/
def solveTurnedUptoCard : Claim7 := { stood := { row := solveTurnedUptoRow, standIns := [], harness := (true, "3e4e8d3346f72ab65e2f4802f9af5181f18ff23daaadbe53306a4f7a90a225cc"), looks := false }, kinds := [], alts := [], laidByText := true, laidKinds := [.data], laidTests := true, laidLooks := .later }
def SolveTurnedUptoCardSaid : Prop := Claim7.holds Tryz.pinned (.plain (OpenSpec.upto solveTurnedSpec)) solveTurnedUptoCard
end Rows
end Go.Proofs.YtnligpcfkmdjeaaGreatDoor
