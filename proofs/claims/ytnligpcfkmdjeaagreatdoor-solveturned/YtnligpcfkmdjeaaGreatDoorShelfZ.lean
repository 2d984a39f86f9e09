/- The library's contract of math/bits.TrailingZeros64, laid at this translation. -/
import Derived.Shelf.Spec.TrailingZeros
import Derived.Below
import Derived.Test.YtnligpcfkmdjeaaGreatDoorProg
namespace Go.Proofs
open Go.Shelf Go.RowKit
def Tryz.lays7n29_ren : Go.Shelf.Ren := ⟨fun | 29 => 113 | n => n, fun | 0 => 0 | 3 => 3 | 4 => 4 | 5 => 5 | 22 => 63 | 25 => 154 | 54 => 205 | n => n, fun | 1 => 0 | n => n⟩
theorem Tryz.lays7n29 : Go.Proofs.Lays7.n29 Tryz.prog Tryz.lays7n29_ren := {
  mixed := by kernel_rfl
  f29 := Tryz.func113.trans (congrArg some (by kernel_rfl))
  t0 := Tryz.underlying0
  a0 := Tryz.isAgg0
  z0 := Tryz.sizeOf0
  v0 := Tryz.zeroValue0
  i0 := by kernel_rfl
  t3 := Tryz.underlying3
  a3 := Tryz.isAgg3
  z3 := Tryz.sizeOf3
  v3 := Tryz.zeroValue3
  i3 := by kernel_rfl
  t4 := Tryz.underlying4
  a4 := Tryz.isAgg4
  z4 := Tryz.sizeOf4
  v4 := Tryz.zeroValue4
  i4 := by kernel_rfl
  t5 := Tryz.underlying5
  a5 := Tryz.isAgg5
  z5 := Tryz.sizeOf5
  v5 := Tryz.zeroValue5
  i5 := by kernel_rfl
  t22 := Tryz.underlying63
  a22 := Tryz.isAgg63
  z22 := Tryz.sizeOf63
  v22 := Tryz.zeroValue63
  i22 := by kernel_rfl
  t25 := Tryz.underlying154
  a25 := Tryz.isAgg154
  z25 := Tryz.sizeOf154
  v25 := Tryz.zeroValue154
  i25 := by kernel_rfl
  t54 := Tryz.underlying205
  a54 := Tryz.isAgg205
  z54 := Tryz.sizeOf205
  g1 := by kernel_rfl }
namespace YtnligpcfkmdjeaaGreatDoor
/- The library's table as its text lays it. -/
def TzTab (w : World) : Prop := Go.Proofs.TabAt 0 Lib.deBruijn64tab w ∧ 0 < w.heap.size
theorem TzTab.later {w w' : World} (h : TzTab w) (hb : Below w.heap.size w w') : TzTab w' := ⟨fun j hj => (hb.cell (p := ⟨0, j, none⟩) h.2).trans (h.1 j hj), Nat.lt_of_lt_of_le h.2 hb.size⟩
theorem TzTab.below {n : Nat} {w w' : World} (h : TzTab w) (hn : 0 < n) (hb : Below n w w') : TzTab w' := ⟨fun j hj => (hb.cell (p := ⟨0, j, none⟩) hn).trans (h.1 j hj), Nat.lt_of_lt_of_le h.2 hb.size⟩
theorem trailC (x : Nat) (hx : x < 18446744073709551616) (w : World) (hT : TzTab w) : Calls Tryz.prog 113 #[.int .u64 (x : Int)] w fun e w' => e = .returned (.int .i64 (Lib.ctz 64 x : Int)) ∧ w' = w :=
  Any7.bits_TrailingZeros64 Tryz.lays7n29 x hx w (fun _ => hT.1)
end YtnligpcfkmdjeaaGreatDoor
end Go.Proofs
