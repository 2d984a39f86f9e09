/- The library's contracts of slices.Reverse and slices.Clone at bounds, laid at this translation. -/
import Derived.Shelf.SlicesQ.Reverse
import Derived.Shelf.SlicesE.Clone
import Derived.Below
import Derived.Test.YtnligpcfkmdjeaaGreatDoorProg
namespace Go.Proofs
open Go.Shelf Go.RowKit
def Tryz.laysRev_ren : Go.Shelf.Ren := ⟨fun | 35 => 25 | n => n, fun | 0 => 0 | 3 => 3 | 4 => 4 | 22 => 24 | 23 => 48 | n => n, fun n => n⟩
theorem Tryz.laysRev : Go.Proofs.SlLaysE0.n35 Tryz.prog Tryz.laysRev_ren := {
  mixed := by kernel_rfl
  f35 := ⟨ "slices.Reverse[[]cloister/api.Bound,cloister/api.Bound]", by kernel_rfl, Tryz.func25.trans (congrArg some (by kernel_rfl))⟩
  t0 := Tryz.underlying0
  a0 := Tryz.isAgg0
  z0 := Tryz.sizeOf0
  v0 := Tryz.zeroValue0
  t3 := Tryz.underlying3
  a3 := Tryz.isAgg3
  z3 := Tryz.sizeOf3
  v3 := Tryz.zeroValue3
  t4 := Tryz.underlying4
  a4 := Tryz.isAgg4
  z4 := Tryz.sizeOf4
  v4 := Tryz.zeroValue4
  t22 := Tryz.underlying24
  a22 := Tryz.isAgg24
  z22 := Tryz.sizeOf24
  v22 := Tryz.zeroValue24 }
def Tryz.laysCln_ren : Go.Shelf.Ren := ⟨fun | 41 => 24 | n => n, fun | 4 => 4 | 22 => 24 | 23 => 48 | n => n, fun n => n⟩
theorem Tryz.laysCln : Go.Proofs.SlLaysE0.n41 Tryz.prog Tryz.laysCln_ren := {
  mixed := by kernel_rfl
  f41 := ⟨ "slices.Clone[[]cloister/api.Bound,cloister/api.Bound]", by kernel_rfl, Tryz.func24.trans (congrArg some (by kernel_rfl))⟩
  t4 := Tryz.underlying4
  a4 := Tryz.isAgg4
  z4 := Tryz.sizeOf4
  v4 := Tryz.zeroValue4
  t22 := Tryz.underlying24
  a22 := Tryz.isAgg24
  z22 := Tryz.sizeOf24
  v22 := Tryz.zeroValue24 }
namespace YtnligpcfkmdjeaaGreatDoor
/- A list, by where it lies. -/
abbrev SlV := Option Addr × Nat × Nat
def slv (s : SlV) : Value := .slice s.1 s.2.1 s.2.2
/- A bound's six cells: two numbers, four lists. -/
structure BdV where
  s0 : SlV
  s1 : SlV
  d2 : Int
  s3 : SlV
  p4 : Int
  s5 : SlV
instance : Inhabited BdV := ⟨⟨(none, 0, 0), (none, 0, 0), 0, (none, 0, 0), 0, (none, 0, 0)⟩⟩
def encB (x : BdV) : List Value := [slv x.s0, slv x.s1, .int .i64 x.d2, slv x.s3, .int .i64 x.p4, slv x.s5]
theorem encB_len (x : BdV) : (encB x).length = 6 := rfl
theorem encB_one (x : BdV) : ∀ v ∈ encB x, v.oneCell' = true := fun v hv => by
  simp only [encB, List.mem_cons, List.not_mem_nil, or_false] at hv
  rcases hv with rfl | rfl | rfl | rfl | rfl | rfl <;> rfl
theorem reverseB (blk off cap : Nat) (d : Array BdV) (w : World) (hH : Sort.HoldsK encB 6 w blk off d) (hsz : d.size ≤ 9223372036854775807) :
    Calls Tryz.prog 25 #[.slice (some ⟨blk, off, none⟩) d.size cap] w fun e w' => e = .returned (.tuple #[]) ∧ ∃ n, w' = Sort.putRowK encB 6 (Sort.ahead w n) blk off d.reverse :=
  AnyQ.slices_Reverse Tryz.laysRev 6 Tryz.isAgg48 Tryz.sizeOf48 encB encB_len encB_one blk off cap d w hH hsz
theorem reverseB_none (a : Option Addr) (cap : Nat) (w : World) : Calls Tryz.prog 25 #[.slice a 0 cap] w fun e w' => e = .returned (.tuple #[]) ∧ w' = w :=
  AnyQ.slices_Reverse_empty Tryz.laysRev a cap w
theorem Tryz.infoBdR : (Tryz.prog.info? 48).map (fun i => (i.zero, i.size, i.bytes)) = some (some (.agg #[.slice none 0 0, .slice none 0 0, .int .i64 0, .slice none 0 0, .int .i64 0, .slice none 0 0]), 6, 112) := by kernel_rfl
theorem cloneB (b off n c : Nat) (news : List Value) (w : World) (hl : news.length = n * 6) (hn : n ≤ 400) (hc : ∀ j u, news[j]? = some u → w.cell? ⟨b, off + j, none⟩ = some u) (h1 : ∀ u ∈ news, u.oneCell' = true) :
    Calls Tryz.prog 24 #[.slice (some ⟨b, off, none⟩) n c] w fun e w' => ∃ v', e = .returned v' ∧ w'.ownsRow w.heap.size 48 6 v' n news ∧ v' ≠ .slice none 0 0 ∧ Below w.heap.size w w' := by
  have h := Tryz.infoBdR
  rw [Option.map_eq_some_iff] at h
  obtain ⟨i0, hi, e⟩ := h
  simp only [Prod.mk.injEq] at e
  exact AnyE.slices_Clone Tryz.laysCln i0 _ 6 112 hi e.1 e.2.1 e.2.2 rfl (by decide) Tryz.sizeOf48 b off n c news w hl (by unfold maxLen; omega) (by omega) hc h1
theorem cloneB_nil (n c : Nat) (w : World) : Calls Tryz.prog 24 #[.slice none n c] w fun e w' => e = .returned (.slice none 0 0) ∧ w' = w :=
  AnyE.slices_Clone_nil Tryz.laysCln n c w
end YtnligpcfkmdjeaaGreatDoor
end Go.Proofs
