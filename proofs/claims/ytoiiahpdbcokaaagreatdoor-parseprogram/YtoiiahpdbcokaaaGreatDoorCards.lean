/-
  DERIVED. GIVEN WITH THE SEED: THE CARDS: each row of YtoiiahpdbcokaaaGreatDoorRows.lean that lists a variable, with what it lists TIED to the program's text (the seventh form; the later family's looks); each row that meets fmt, with fmt's text TOLD by the authors' own Lean function (tested against real Go, not proved from fmt's source: count such statements apart). THE CARD IS WHAT COUNTS. Prove the row's statement (the work); the ties are given (YtoiiahpdbcokaaaGreatDoorTie.lean); close each card by the builder's one call (the guide's Derived/Test/ToyasCard.lean, 'card_holds'). Laid BY PROGRAM, IN A SANDBOX (cutbox-door.mjs). By AI agents, Wed Nov 11 2026. No macro, syntax, notation, axiom, sorry.
-/
import Derived.Test.YtoiiahpdbcokaaaGreatDoorRows
import GoSem.ClaimSeven
namespace Go.Proofs.YtoiiahpdbcokaaaGreatDoor
namespace Rows

/-- THE TIED CARD OF 'cloisterlaw.ParseProgram'. -/
def parseProgramCard : Claim7 := { stood := { row := parseProgramRow, standIns := [], harness := (true, "46201649f443a02a7965f491f32d693575b321c35ffe02ed926529ea6a92e987"), looks := true }, kinds := [], alts := [], laidByText := true, laidKinds := [.data, .data, .data, .data, .sentinel, .sentinel, .listed, .data, .widerDeep, .pinned], laidTests := true, laidLooks := .later }
def ParseProgramCardSaid : Prop := Claim7.holds Tryz.pinned (.plain (OpenSpec.ofChange parseProgramSpec)) parseProgramCard

/-- THE SECOND FORM's CARD OF 'cloisterlaw.ParseProgram'. -/
def parseProgramUptoCard : Claim7 := { stood := { row := parseProgramUptoRow, standIns := [], harness := (true, "46201649f443a02a7965f491f32d693575b321c35ffe02ed926529ea6a92e987"), looks := true }, kinds := [], alts := [], laidByText := true, laidKinds := [.data, .data, .data, .data, .sentinel, .sentinel, .listed, .data, .widerDeep, .pinned], laidTests := true, laidLooks := .later }
def ParseProgramUptoCardSaid : Prop := Claim7.holds Tryz.pinned (.plain (OpenSpec.upto parseProgramSpec)) parseProgramUptoCard
end Rows
end Go.Proofs.YtoiiahpdbcokaaaGreatDoor
