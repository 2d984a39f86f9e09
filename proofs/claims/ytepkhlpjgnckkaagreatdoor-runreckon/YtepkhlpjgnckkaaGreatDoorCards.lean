/-
  DERIVED. GIVEN WITH THE SEED: THE CARDS: each row of YtepkhlpjgnckkaaGreatDoorRows.lean that lists a variable, with what it lists TIED to the program's text (the seventh form; the later family's looks); each row that meets fmt, with fmt's text TOLD by the authors' own Lean function (tested against real Go, not proved from fmt's source: count such statements apart). THE CARD IS WHAT COUNTS. Prove the row's statement (the work); the ties are given (YtepkhlpjgnckkaaGreatDoorTie.lean); close each card by the builder's one call (the guide's Derived/Test/ToyasCard.lean, 'card_holds'). Laid BY PROGRAM, IN A SANDBOX (cutbox-door.mjs). By AI agents, Wed Nov 11 2026. No macro, syntax, notation, axiom, sorry.
-/
import Derived.Test.YtepkhlpjgnckkaaGreatDoorRows
import GoSem.ClaimSeven
namespace Go.Proofs.YtepkhlpjgnckkaaGreatDoor
namespace Rows

/-- THE TIED CARD OF 'cloisterlaw.RunReckon'. -/
def runReckonCard : Claim7 := { stood := { row := runReckonRow, standIns := [], harness := (true, "1804d64e75b3b446c87b73c23631118c468c3233c65a7efd3f4e487a24289bbe"), looks := true }, kinds := [], alts := [], laidByText := true, laidKinds := [.data, .data, .data, .sentinel, .sentinel, .widerDeep], laidTests := true, laidLooks := .later }
def RunReckonCardSaid : Prop := Claim7.holds Tryz.pinned (.plain (OpenSpec.ofChange runReckonSpec)) runReckonCard

/-- THE SECOND FORM's CARD OF 'cloisterlaw.RunReckon'. -/
def runReckonUptoCard : Claim7 := { stood := { row := runReckonUptoRow, standIns := [], harness := (true, "1804d64e75b3b446c87b73c23631118c468c3233c65a7efd3f4e487a24289bbe"), looks := true }, kinds := [], alts := [], laidByText := true, laidKinds := [.data, .data, .data, .sentinel, .sentinel, .widerDeep], laidTests := true, laidLooks := .later }
def RunReckonUptoCardSaid : Prop := Claim7.holds Tryz.pinned (.plain (OpenSpec.upto runReckonSpec)) runReckonUptoCard
end Rows
end Go.Proofs.YtepkhlpjgnckkaaGreatDoor
