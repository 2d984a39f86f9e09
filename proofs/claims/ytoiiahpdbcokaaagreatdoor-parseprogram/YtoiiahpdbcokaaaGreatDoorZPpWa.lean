/- The witness of ParseProgram's row: each place is met once. -/
import Derived.Test.YtoiiahpdbcokaaaGreatDoorZPpV
namespace Go.Proofs.YtoiiahpdbcokaaaGreatDoor.parseProgram
open Go.ChangeShapes Go.WideShapes Go.ChangeAt Go.RowKit
theorem akl (os:Os):(DataW.laidRun Tryz.prog ((ER os).forCall (fun _ _=>0) ⟨#[],#[.string ⟨#[]⟩],[]⟩).memory 8 (Rows.parseProgramRow.laid.map (·.1))).map (fun x=>nodupB (x.2.map MemPlace.codeOf))=some true:=by kernel_rfl
end Go.Proofs.YtoiiahpdbcokaaaGreatDoor.parseProgram
