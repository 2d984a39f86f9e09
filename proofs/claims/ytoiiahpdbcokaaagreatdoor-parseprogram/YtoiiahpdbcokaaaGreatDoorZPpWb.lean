/- The witness of ParseProgram's row: the rows that it meets, and what is read. -/
import Derived.Test.YtoiiahpdbcokaaaGreatDoorZPpWa
namespace Go.Proofs.YtoiiahpdbcokaaaGreatDoor.parseProgram
open Go.ChangeShapes Go.WideShapes Go.ChangeAt Go.RowKit
theorem akj (os:Os):(DataW.laidRun Tryz.prog ((ER os).forCall (fun _ _=>0) ⟨#[],#[.string ⟨#[]⟩],[]⟩).memory 8 (Rows.parseProgramRow.laid.map (·.1))).map (fun x=>laidRowsB Tryz.prog ((ER os).forCall (fun _ _=>0) ⟨#[],#[.string ⟨#[]⟩],[]⟩).memory x.2)=some true:=by kernel_rfl
theorem akm (os:Os):laidMet Tryz.prog Rows.parseProgramRow.laid ((ER os).forCall (fun _ _=>0) ⟨#[],#[.string ⟨#[]⟩],[]⟩).memory:=
 laidMet_of_run3 8 (akk os) (akl os) (akj os)
theorem reads (os:Os){H:Type}(enc:TypeId×Value→H):∃places,DataW.whole enc Tryz.prog ((ER os).forCall (fun _ _=>0) ⟨#[],#[.string ⟨#[]⟩],[]⟩).memory Tryz.f3.params.toList Rows.parseProgramSpec.vars false #[Value.string ⟨#[]⟩].toList 8=some ([.lit (.string [])],[],places):=
 ⟨[],by kernel_rfl⟩
end Go.Proofs.YtoiiahpdbcokaaaGreatDoor.parseProgram
