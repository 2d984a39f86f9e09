/- The closure that parse.whole defers. The closure that parse.whole defers. -/
import Derived.Test.YtcdeicfegfedfaaGreatDoorGaRdB
import Derived.Defers
import Derived.Recover
namespace Go.Proofs.YtcdeicfegfedfaaGreatDoor
open Go.RowKit
open Par (Tok Po Tr nx atP isT ba Res)

set_option maxRecDepth 100000 in
set_option maxHeartbeats 2000000 in
theorem catch_idle (p : Addr) (w : World) :
    CallsD Tryz.prog 28 #[.pointer (some p)] .returning w fun x u' w' => x = .returned (.tuple #[]) ∧ u' = .returning ∧ w' = w := by
  refine callsD_of_wpS Tryz.func28 rfl fun c₀ cs hu => ?_
  apply wpS_seq
  apply wpS_region
  simp [wpOpsS, go_sem, recoverD, hu, Tryz.ntmps28, Exit.thenS]
  refine wpS_of_wp ?_
  show Code.wp _ _ _ { tmps := #[.pointer (some p), .nilIface, undef, undef, .nilIface, undef, undef, undef, undef, undef, undef, undef, undef, undef, undef, undef], defers := [] } w
  go_wp2
  cases c₀
  simp_all [bodyPostS, results, Tryz.results28]
set_option maxRecDepth 100000 in
set_option maxHeartbeats 2000000 in
theorem catch_stop (fb : Nat) (c : Int) (q : Nat) (w : World) {y0 y1 : Int} (hf : w.heap[fb]? = some (.cells #[.int .i64 y0, .int .i64 y1] 29 (0, 0))) :
    CallsD Tryz.prog 28 #[.pointer (some ⟨fb, 0, none⟩)] (.panicking [{ v := stopV c q, recovered := false }]) w fun x u' w' => x = .returned (.tuple #[]) ∧ u' = .panicking [{ v := stopV c q, recovered := true }] ∧ w'.heap[fb]? = some (.cells #[.int .i64 c, .int .i64 (q : Int)] 29 (0, 0)) ∧ w.grownBy w' (some fb) := by
  refine callsD_of_wpS Tryz.func28 rfl fun c₀ cs hu => ?_
  apply wpS_seq
  apply wpS_region
  simp [wpOpsS, go_sem, recoverD, hu, Tryz.ntmps28, Exit.thenS]
  have hlf := lt_of_block hf
  obtain ⟨⟨e0, e1⟩, g0, g1⟩ : (w.cell? ⟨fb, 0, none⟩ = some (.int .i64 y0) ∧ w.cell? ⟨fb, 1, none⟩ = some (.int .i64 y1)) ∧ w.frozen? ⟨fb, 0, none⟩ = false ∧ w.frozen? ⟨fb, 1, none⟩ = false := by refine ⟨⟨?_, ?_⟩, ?_, ?_⟩ <;> simp [World.cell?, World.frozen?, hf]
  refine wpS_of_wp ?_
  show Code.wp _ _ _ { tmps := #[.pointer (some ⟨fb, 0, none⟩), stopV c q, undef, undef, stopV c q, undef, undef, undef, undef, undef, undef, undef, undef, undef, undef, undef], defers := [] } w
  unfold stopV
  have hta : ∀ (v : Value) (w : World), (Instr.typeAssert (.iface 62 v) 20 62 true).run Tryz.prog w = .ok (.tuple #[v, .bool true]) w := fun _ _ => by kernel_rfl
  have n1 : ∀ o, (((w.setCell ⟨fb, 0, none⟩ (.int .i64 c)).setCell ⟨fb, 1, none⟩ (.int .i64 (q : Int))).alloc o).heap[fb]? = some (.cells #[.int .i64 c, .int .i64 (q : Int)] 29 (0, 0)) := fun o => heap_past_alloc (by simp [World.setCell, Array.getElem?_modify, hf])
  have n2 : ∀ o, w.grownBy (((w.setCell ⟨fb, 0, none⟩ (.int .i64 c)).setCell ⟨fb, 1, none⟩ (.int .i64 (q : Int))).alloc o) (some fb) := by
    intro o
    refine grown_alloc ?_ _
    refine grown_set ?_ rfl _
    refine grown_set ?_ rfl _
    exact grown_refl _ _
  have N : Hid ((∀ o, (((w.setCell ⟨fb, 0, none⟩ (.int .i64 c)).setCell ⟨fb, 1, none⟩ (.int .i64 (q : Int))).alloc o).heap[fb]? = some (.cells #[.int .i64 c, .int .i64 (q : Int)] 29 (0, 0))) ∧ ∀ o, w.grownBy (((w.setCell ⟨fb, 0, none⟩ (.int .i64 c)).setCell ⟨fb, 1, none⟩ (.int .i64 (q : Int))).alloc o) (some fb)) := ⟨n1, n2⟩
  clear n1 n2
  go_wp2
  obtain ⟨n1, n2⟩ := N.out
  exact ⟨rfl, _, rfl, .tuple #[], by simp [results, Tryz.results28], rfl, rfl, n1 _, n2 _⟩
end Go.Proofs.YtcdeicfegfedfaaGreatDoor

namespace Go.Proofs.YtcdeicfegfedfaaGreatDoor
open Go.RowKit
open Par (Tok Po Tr nx atP isT ba Res)

set_option maxRecDepth 100000 in
set_option maxHeartbeats 2000000 in
theorem catchL_idle (p : Addr) (w : World) :
    CallsD Tryz.prog 33 #[.pointer (some p)] .returning w fun x u' w' => x = .returned (.tuple #[]) ∧ u' = .returning ∧ w' = w := by
  refine callsD_of_wpS Tryz.func33 rfl fun c₀ cs hu => ?_
  apply wpS_seq
  apply wpS_region
  simp [wpOpsS, go_sem, recoverD, hu, Tryz.ntmps33, Exit.thenS]
  refine wpS_of_wp ?_
  show Code.wp _ _ _ { tmps := #[.pointer (some p), .nilIface, undef, undef, .nilIface, undef, undef, undef, undef, undef, undef, undef, undef, undef, undef, undef], defers := [] } w
  go_wp2
  cases c₀
  simp_all [bodyPostS, results, Tryz.results33]
set_option maxRecDepth 100000 in
set_option maxHeartbeats 2000000 in
theorem catchL_stop (fb : Nat) (c : Int) (q : Nat) (w : World) {y0 y1 : Int} (hf : w.heap[fb]? = some (.cells #[.int .i64 y0, .int .i64 y1] 29 (0, 0))) :
    CallsD Tryz.prog 33 #[.pointer (some ⟨fb, 0, none⟩)] (.panicking [{ v := stopV c q, recovered := false }]) w fun x u' w' => x = .returned (.tuple #[]) ∧ u' = .panicking [{ v := stopV c q, recovered := true }] ∧ w'.heap[fb]? = some (.cells #[.int .i64 c, .int .i64 (q : Int)] 29 (0, 0)) ∧ w.grownBy w' (some fb) := by
  refine callsD_of_wpS Tryz.func33 rfl fun c₀ cs hu => ?_
  apply wpS_seq
  apply wpS_region
  simp [wpOpsS, go_sem, recoverD, hu, Tryz.ntmps33, Exit.thenS]
  have hlf := lt_of_block hf
  obtain ⟨⟨e0, e1⟩, g0, g1⟩ : (w.cell? ⟨fb, 0, none⟩ = some (.int .i64 y0) ∧ w.cell? ⟨fb, 1, none⟩ = some (.int .i64 y1)) ∧ w.frozen? ⟨fb, 0, none⟩ = false ∧ w.frozen? ⟨fb, 1, none⟩ = false := by refine ⟨⟨?_, ?_⟩, ?_, ?_⟩ <;> simp [World.cell?, World.frozen?, hf]
  refine wpS_of_wp ?_
  show Code.wp _ _ _ { tmps := #[.pointer (some ⟨fb, 0, none⟩), stopV c q, undef, undef, stopV c q, undef, undef, undef, undef, undef, undef, undef, undef, undef, undef, undef], defers := [] } w
  unfold stopV
  have hta : ∀ (v : Value) (w : World), (Instr.typeAssert (.iface 62 v) 20 62 true).run Tryz.prog w = .ok (.tuple #[v, .bool true]) w := fun _ _ => by kernel_rfl
  have n1 : ∀ o, (((w.setCell ⟨fb, 0, none⟩ (.int .i64 c)).setCell ⟨fb, 1, none⟩ (.int .i64 (q : Int))).alloc o).heap[fb]? = some (.cells #[.int .i64 c, .int .i64 (q : Int)] 29 (0, 0)) := fun o => heap_past_alloc (by simp [World.setCell, Array.getElem?_modify, hf])
  have n2 : ∀ o, w.grownBy (((w.setCell ⟨fb, 0, none⟩ (.int .i64 c)).setCell ⟨fb, 1, none⟩ (.int .i64 (q : Int))).alloc o) (some fb) := by
    intro o
    refine grown_alloc ?_ _
    refine grown_set ?_ rfl _
    refine grown_set ?_ rfl _
    exact grown_refl _ _
  have N : Hid ((∀ o, (((w.setCell ⟨fb, 0, none⟩ (.int .i64 c)).setCell ⟨fb, 1, none⟩ (.int .i64 (q : Int))).alloc o).heap[fb]? = some (.cells #[.int .i64 c, .int .i64 (q : Int)] 29 (0, 0))) ∧ ∀ o, w.grownBy (((w.setCell ⟨fb, 0, none⟩ (.int .i64 c)).setCell ⟨fb, 1, none⟩ (.int .i64 (q : Int))).alloc o) (some fb)) := ⟨n1, n2⟩
  clear n1 n2
  go_wp2
  obtain ⟨n1, n2⟩ := N.out
  exact ⟨rfl, _, rfl, .tuple #[], by simp [results, Tryz.results33], rfl, rfl, n1 _, n2 _⟩
end Go.Proofs.YtcdeicfegfedfaaGreatDoor
