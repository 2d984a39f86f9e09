/-
  DERIVED. GIVEN WITH THE SEED: THE CARDS: each row of YtilapnfdijjobaaDoorRows.lean that lists a variable, with what it lists TIED to the program's text (the seventh form; the later family's looks); each row that meets fmt, with fmt's text TOLD by the authors' own Lean function (tested against real Go, not proved from fmt's source: count such statements apart). THE CARD IS WHAT COUNTS. Prove the row's statement (the work); the ties are given (YtilapnfdijjobaaDoorTie.lean); close each card by the builder's one call (the guide's Derived/Test/ToyasCard.lean, 'card_holds'). Laid BY PROGRAM, IN A SANDBOX (cutbox-door.mjs). By AI agents, Wed Nov 11 2026. No macro, syntax, notation, axiom, sorry.
-/
import Derived.Test.YtilapnfdijjobaaDoorRows
import GoSem.ClaimSeven
namespace Go.Proofs.YtilapnfdijjobaaDoor
namespace Rows

/-- THE TIED CARD OF 'cloisterlaw.ScanText'. -/
def scanTextCard : Claim7 := { stood := { row := scanTextRow, standIns := [], harness := (true, "47eba472642d3d2ab86c86597f5ca00a9988b33035a6706757e06918a52cbbf8"), looks := false }, kinds := [], alts := [], laidByText := true, laidKinds := [.data, .listed, .data, .pinned], laidTests := true, laidLooks := .later }
def ScanTextCardSaid : Prop := Claim7.holds Tryd.pinned (.plain (OpenSpec.ofChange scanTextSpec)) scanTextCard

/-- THE TIED CARD OF 'cloisterlaw.ChiefActs'. -/
def chiefActsCard : Claim7 := { stood := { row := chiefActsRow, standIns := [], harness := (true, "47eba472642d3d2ab86c86597f5ca00a9988b33035a6706757e06918a52cbbf8"), looks := false }, kinds := [], alts := [], laidByText := true, laidKinds := [.data, .pinned], laidTests := true, laidLooks := .later }
def ChiefActsCardSaid : Prop := Claim7.holds Tryd.pinned (.plain (OpenSpec.ofChange chiefActsSpec)) chiefActsCard

/-- THE TIED CARD OF 'cloisterlaw.ChiefLeast'. -/
def chiefLeastCard : Claim7 := { stood := { row := chiefLeastRow, standIns := [], harness := (true, "47eba472642d3d2ab86c86597f5ca00a9988b33035a6706757e06918a52cbbf8"), looks := false }, kinds := [], alts := [], laidByText := true, laidKinds := [.data, .pinned], laidTests := true, laidLooks := .later }
def ChiefLeastCardSaid : Prop := Claim7.holds Tryd.pinned (.plain (OpenSpec.ofChange chiefLeastSpec)) chiefLeastCard

/-- THE SECOND FORM's CARD OF 'cloisterlaw.ScanText'. -/
def scanTextUptoCard : Claim7 := { stood := { row := scanTextUptoRow, standIns := [], harness := (true, "47eba472642d3d2ab86c86597f5ca00a9988b33035a6706757e06918a52cbbf8"), looks := false }, kinds := [], alts := [], laidByText := true, laidKinds := [.data, .listed, .data, .pinned], laidTests := true, laidLooks := .later }
def ScanTextUptoCardSaid : Prop := Claim7.holds Tryd.pinned (.plain (OpenSpec.upto scanTextSpec)) scanTextUptoCard

/-- THE SECOND FORM's CARD OF 'cloisterlaw.ChiefActs'. -/
def chiefActsUptoCard : Claim7 := { stood := { row := chiefActsUptoRow, standIns := [], harness := (true, "47eba472642d3d2ab86c86597f5ca00a9988b33035a6706757e06918a52cbbf8"), looks := false }, kinds := [], alts := [], laidByText := true, laidKinds := [.data, .pinned], laidTests := true, laidLooks := .later }
def ChiefActsUptoCardSaid : Prop := Claim7.holds Tryd.pinned (.plain (OpenSpec.upto chiefActsSpec)) chiefActsUptoCard

/-- THE SECOND FORM's CARD OF 'cloisterlaw.ChiefLeast'. -/
def chiefLeastUptoCard : Claim7 := { stood := { row := chiefLeastUptoRow, standIns := [], harness := (true, "47eba472642d3d2ab86c86597f5ca00a9988b33035a6706757e06918a52cbbf8"), looks := false }, kinds := [], alts := [], laidByText := true, laidKinds := [.data, .pinned], laidTests := true, laidLooks := .later }
def ChiefLeastUptoCardSaid : Prop := Claim7.holds Tryd.pinned (.plain (OpenSpec.upto chiefLeastSpec)) chiefLeastUptoCard
end Rows
end Go.Proofs.YtilapnfdijjobaaDoor
