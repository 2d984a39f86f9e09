/- The law's closed fact: viewed returns true. -/
import Derived.Test.YtfhpmnghakhlkaaDoorSeenC
import Derived.Test.YtfhpmnghakhlkaaDoorEvEq
namespace Go.Proofs.YtfhpmnghakhlkaaDoor
open Go.RowKit

def VL : List ByteArray := [⟨#[97]⟩, ⟨#[98]⟩]
def VE : List Evt := [(⟨#[120]⟩, 1, [(⟨#[97]⟩, [])]), (⟨#[121]⟩, 2, [])]
theorem vl_seenE : seenE VL [] ⟨#[98]⟩ VE = 0 := by kernel_rfl
theorem vl_seenV : seenV VL [] ⟨#[98]⟩ VE = [(⟨#[121]⟩, 2)] := by kernel_rfl
def viewW (w : World) : World := ((w.alloc (.cells #[.string ⟨#[97]⟩, .string ⟨#[98]⟩] 9)).alloc (.cells #[.string ⟨#[97]⟩, .slice none 0 0] 61)).alloc (.cells #[.string ⟨#[120]⟩, .int .i64 1, .slice (some ⟨w.heap.size + 1, 0, none⟩) 1 1, .string ⟨#[121]⟩, .int .i64 2, .slice none 0 0] 35)
def VV (b : Nat) : List Ev3 := [(⟨#[120]⟩, 1, .slice (some ⟨b, 0, none⟩) 1 1), (⟨#[121]⟩, 2, .slice none 0 0)]
theorem vw_bel (w : World) : Below w.heap.size w (viewW w) := (((Below.refl _ _).alloc (Nat.le_refl _) _).alloc (by simp) _).alloc (by simp; omega) _
theorem vw_0 (w : World) : (viewW w).heap[w.heap.size]? = some (.cells #[.string ⟨#[97]⟩, .string ⟨#[98]⟩] 9 (0, 0)) := heap_past_alloc (heap_past_alloc (heap_at_alloc _ _ _ rfl))
theorem vw_1 (w : World) : (viewW w).heap[w.heap.size + 1]? = some (.cells #[.string ⟨#[97]⟩, .slice none 0 0] 61 (0, 0)) := heap_past_alloc (heap_at_alloc _ _ _ (by simp))
theorem vw_2 (w : World) : (viewW w).heap[w.heap.size + 2]? = some (.cells #[.string ⟨#[120]⟩, .int .i64 1, .slice (some ⟨w.heap.size + 1, 0, none⟩) 1 1, .string ⟨#[121]⟩, .int .i64 2, .slice none 0 0] 35 (0, 0)) := heap_at_alloc _ _ _ (by simp)
theorem vw_chiefs (w : World) : Chiefs (viewW w) (some ⟨w.heap.size, 0, none⟩) none w.heap.size 0 0 0 2 0 2 VL [] := by
  have h1 := vw_0 w
  refine ⟨rfl, rfl, by unfold maxLen; omega, by unfold maxLen; omega, Nat.le_refl _, ⟨fun _ => rfl, ?_, fun _ => lt_of_block h1⟩, ⟨fun h => by simp at h, fun k h => by simp at h, fun k h => by simp at h, fun h => by simp at h⟩, ?_⟩
  · intro k hk
    match k, hk with
    | 0, _ => simp [World.cell?, h1, VL]
    | 1, _ => simp [World.cell?, h1, VL]
  · intro s hs
    simp [VL] at hs
    rcases hs with rfl | rfl <;> (unfold maxLen; decide)
theorem vw_lab (w : World) : LabAt (viewW w) (some ⟨w.heap.size + 1, 0, none⟩) (w.heap.size + 1) 0 1 1 [(⟨#[97]⟩, [])] := by
  have h1 := vw_1 w
  refine ⟨rfl, by unfold maxLen; omega, Nat.le_refl _, ⟨fun _ => rfl, fun k hk => ?_, fun k hk => ?_, fun _ => lt_of_block h1⟩, fun p hp => ?_⟩
  · match k, hk with
    | 0, _ => simp [World.cell?, h1]
  · match k, hk with
    | 0, _ => exact ⟨.slice none 0 0, by simp [World.cell?, h1], none, 0, 0, 0, rfl, Nat.le_refl _, Nat.zero_le _, ⟨fun h => by simp at h, fun k h => by simp at h, fun h => by simp at h⟩⟩
  · simp at hp
    subst hp
    exact ⟨by unfold maxLen; decide, fun r hr => by simp at hr⟩
theorem vw_evv (w : World) : EvV (viewW w) (some ⟨w.heap.size + 2, 0, none⟩) (w.heap.size + 2) 0 (VV (w.heap.size + 1)) := by
  have h1 := vw_2 w
  refine ⟨fun _ => rfl, fun k hk => ?_, fun k hk => ?_, fun k hk => ?_, fun e he => ?_, fun _ => lt_of_block h1⟩
  · match k, hk with
    | 0, _ => simp [World.cell?, h1, VV]
    | 1, _ => simp [World.cell?, h1, VV]
  · match k, hk with
    | 0, _ => simp [World.cell?, h1, VV]
    | 1, _ => simp [World.cell?, h1, VV]
  · match k, hk with
    | 0, _ => simp [World.cell?, h1, VV]
    | 1, _ => simp [World.cell?, h1, VV]
  · simp [VV] at he
    rcases he with rfl | rfl <;> exact ⟨_, _, _, rfl⟩
theorem vw_evl (w : World) : EvL (viewW w) (VV (w.heap.size + 1)) VE := by
  refine ⟨rfl, fun k hk hk' => ?_, fun e he => ?_⟩
  · match k, hk with
    | 0, _ => exact ⟨rfl, rfl, _, _, _, _, _, rfl, vw_lab w⟩
    | 1, _ => exact ⟨rfl, rfl, LabOf.nil _⟩
  · simp [VE] at he
    rcases he with rfl | rfl <;> decide

set_option maxRecDepth 100000 in
set_option maxHeartbeats 2000000 in
theorem viewed_any (w : World) : Calls Tryd.prog 7 #[] w fun e w' => e = .returned (.bool true) ∧ Below w.heap.size w w' := by
  have hcall := seenC _ _ _ _ _ _ _ _ _ 2 0 _ _ 2 2 VL [] ⟨#[98]⟩ _ VE (viewW w) (vw_chiefs w) (vw_evv w) (vw_evl w) rfl (by unfold maxLen; omega)
  rw [vl_seenE, vl_seenV] at hcall
  have HC : Hid (Calls Tryd.prog 5 #[.slice (some ⟨w.heap.size, 0, none⟩) 2 2, .slice none 0 0, .string ⟨#[98]⟩, .slice (some ⟨w.heap.size + 2, 0, none⟩) 2 2] (viewW w) fun e w' => ∃ v, e = .returned (.tuple #[v, .int .i64 0]) ∧ EvSt (viewW w) w' v [(⟨#[121]⟩, 2)]) := hcall
  have HB : Hid (Below w.heap.size w (viewW w)) := vw_bel w
  have HW : Hid (viewW w = ((w.alloc (.cells #[.string ⟨#[97]⟩, .string ⟨#[98]⟩] 9)).alloc (.cells #[.string ⟨#[97]⟩, .slice none 0 0] 61)).alloc (.cells #[.string ⟨#[120]⟩, .int .i64 1, .slice (some ⟨w.heap.size + 1, 0, none⟩) 1 1, .string ⟨#[121]⟩, .int .i64 2, .slice none 0 0] 35)) := rfl
  obtain ⟨wz, hwz⟩ : ∃ wz, wz = viewW w := ⟨_, rfl⟩
  rw [← hwz] at HC HB HW
  clear hcall hwz
  go_enter Tryd.func7, Tryd.ntmps7
  go_wp2_with fail
  rw [← HW.out]
  refine HC.out.mono ?_
  rintro e w1 ⟨v, rfl, hst⟩
  obtain ⟨ao, b, cap, hv, hc1, hc2, hrow⟩ := hst.row
  have HB1 : Hid (Below w.heap.size w w1) := HB.out.trans (hst.bel.mono HB.out.size)
  subst hv
  have el : ([(⟨#[121]⟩, 2)] : List Ev2).length = 1 := rfl
  rw [el]
  obtain ⟨w2, hw2⟩ : ∃ w2, w2 = w1.alloc (.cells #[.string ⟨#[121]⟩, .int .i64 2, .slice none 0 0] 35) := ⟨_, rfl⟩
  have hb2 : Below w1.heap.size w1 w2 := by rw [hw2]; exact (Below.refl _ _).alloc (Nat.le_refl _) _
  have k2 : w2.heap[w1.heap.size]? = some (.cells #[.string ⟨#[121]⟩, .int .i64 2, .slice none 0 0] 35 (0, 0)) := by rw [hw2]; exact heap_at_alloc _ _ _ rfl
  have hr2 : EvV w2 (some ⟨w1.heap.size, 0, none⟩) w1.heap.size 0 (bareV [(⟨#[121]⟩, 2)]) := by
    refine ⟨fun _ => rfl, fun k hk => ?_, fun k hk => ?_, fun k hk => ?_, bareV_sl _, fun _ => lt_of_block k2⟩
    · match k, hk with
      | 0, _ => simp [World.cell?, k2, bareV]
    · match k, hk with
      | 0, _ => simp [World.cell?, k2, bareV]
    · match k, hk with
      | 0, _ => simp [World.cell?, k2, bareV]
  have heq := evSame ao (some ⟨w1.heap.size, 0, none⟩) b 0 w1.heap.size 0 1 1 cap 1 [(⟨#[121]⟩, 2)] [(⟨#[121]⟩, 2)] w2 rfl rfl (by unfold maxLen; omega) (by unfold maxLen; omega) (hrow.later hb2) hr2
  rw [decide_eq_true rfl] at heq
  have HW2 : Hid (w2 = w1.alloc (.cells #[.string ⟨#[121]⟩, .int .i64 2, .slice none 0 0] 35)) := hw2
  have HB2 : Hid (Below w.heap.size w w2) := HB1.out.trans (hb2.mono HB1.out.size)
  clear hst hrow hc1 hc2 hw2 hb2 k2 hr2 HC HB HW HB1 el
  go_wp2_with fail
  rw [← HW2.out]
  refine heq.mono ?_
  rintro e w3 ⟨rfl, hb3⟩
  go_wp2
  go_ret
  exact ⟨rfl, HB2.out.trans (hb3.mono HB2.out.size)⟩
end Go.Proofs.YtfhpmnghakhlkaaDoor
