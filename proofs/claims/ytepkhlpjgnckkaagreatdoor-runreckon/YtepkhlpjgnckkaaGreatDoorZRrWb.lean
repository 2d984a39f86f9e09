/- The witness of RunReckon's row: a world that holds what the program's text lays. -/
import Derived.Test.YtepkhlpjgnckkaaGreatDoorZLaidV
namespace Go.Proofs.YtepkhlpjgnckkaaGreatDoor.runReckon
open Go.ChangeShapes Go.WideShapes Go.ChangeAt Go.RowKit
open laidV (laidWorld)
theorem laid_reads (os:Os):(DataW.laidRun Tryz.prog ((laidWorld os).forCall (fun _ _=>0) ⟨#[],#[.string ⟨#[]⟩,.int .i64 0,.int .i64 0,.agg #[.slice none 0 0,.slice none 0 0,.slice none 0 0,.slice none 0 0],.slice none 0 0],[]⟩).memory 8 (Rows.runReckonRow.laid.map (·.1))).map (·.1)=some Rows.runReckonRow.laid:=by kernel_rfl
theorem laid_once (os:Os):(DataW.laidRun Tryz.prog ((laidWorld os).forCall (fun _ _=>0) ⟨#[],#[.string ⟨#[]⟩,.int .i64 0,.int .i64 0,.agg #[.slice none 0 0,.slice none 0 0,.slice none 0 0,.slice none 0 0],.slice none 0 0],[]⟩).memory 8 (Rows.runReckonRow.laid.map (·.1))).map (fun x=>nodupB (x.2.map MemPlace.codeOf))=some true:=by kernel_rfl
theorem laid_rows (os:Os):(DataW.laidRun Tryz.prog ((laidWorld os).forCall (fun _ _=>0) ⟨#[],#[.string ⟨#[]⟩,.int .i64 0,.int .i64 0,.agg #[.slice none 0 0,.slice none 0 0,.slice none 0 0,.slice none 0 0],.slice none 0 0],[]⟩).memory 8 (Rows.runReckonRow.laid.map (·.1))).map (fun x=>laidRowsB Tryz.prog ((laidWorld os).forCall (fun _ _=>0) ⟨#[],#[.string ⟨#[]⟩,.int .i64 0,.int .i64 0,.agg #[.slice none 0 0,.slice none 0 0,.slice none 0 0,.slice none 0 0],.slice none 0 0],[]⟩).memory x.2)=some true:=by kernel_rfl
theorem laid_met (os:Os):laidMet Tryz.prog Rows.runReckonRow.laid ((laidWorld os).forCall (fun _ _=>0) ⟨#[],#[.string ⟨#[]⟩,.int .i64 0,.int .i64 0,.agg #[.slice none 0 0,.slice none 0 0,.slice none 0 0,.slice none 0 0],.slice none 0 0],[]⟩).memory:=
 laidMet_of_run3 8 (laid_reads os) (laid_once os) (laid_rows os)
theorem reads (os:Os){H:Type}(enc:TypeId×Value→H):∃places,DataW.whole enc Tryz.prog ((laidWorld os).forCall (fun _ _=>0) ⟨#[],#[.string ⟨#[]⟩,.int .i64 0,.int .i64 0,.agg #[.slice none 0 0,.slice none 0 0,.slice none 0 0,.slice none 0 0],.slice none 0 0],[]⟩).memory Tryz.f3.params.toList Rows.runReckonSpec.vars false #[Value.string ⟨#[]⟩,Value.int .i64 0,Value.int .i64 0,Value.agg #[.slice none 0 0,.slice none 0 0,.slice none 0 0,.slice none 0 0],Value.slice none 0 0].toList 8=some ([.lit (.string []),.lit (.int .i64 0),.lit (.int .i64 0),.agg [.nil,.nil,.nil,.nil],.nil],[],places):=
 ⟨[],by kernel_rfl⟩
end Go.Proofs.YtepkhlpjgnckkaaGreatDoor.runReckon
