/- The law's closed fact: labelled returns true. -/
import Derived.Test.YtjfiakoningmkaaGreatDoorLabR
import Derived.Test.YtjfiakoningmkaaGreatDoorGaText
import Derived.Test.YtjfiakoningmkaaGreatDoorGaSame
namespace Go.Proofs.YtjfiakoningmkaaGreatDoor
open Go.RowKit

def LA : List ByteArray := [⟨#[97]⟩, ⟨#[98]⟩]
def XA : List Pol := [(⟨#[97]⟩, [⟨#[98]⟩]), (⟨#[98]⟩, [])]
theorem la_reads : checkL LA [] XA = 0 ∧ readsV LA [] XA = [⟨#[98]⟩] := by
  constructor <;> kernel_rfl
theorem la_print : printE XA = 0 ∧ printV XA = ⟨#[123, 97, 58, 98, 59, 98, 58, 125]⟩ := by
  constructor <;> kernel_rfl
theorem la_flows : bothL LA [] [] XA = 0 ∧ flowsV LA [] [] XA = true := by
  constructor <;> kernel_rfl
theorem strs_la {w : World} {b : Nat} (h : w.heap[b]? = some (.cells #[.string ⟨#[97]⟩, .string ⟨#[98]⟩] 9 (0, 0))) : Strs w (some ⟨b, 0, none⟩) b 0 LA := by
  refine ⟨fun _ => rfl, ?_, fun _ => lt_of_block h⟩
  intro k hk
  match k, hk with
  | 0, _ => simp [World.cell?, h, LA]
  | 1, _ => simp [World.cell?, h, LA]
theorem chiefs_la {w : World} {b : Nat} (h : w.heap[b]? = some (.cells #[.string ⟨#[97]⟩, .string ⟨#[98]⟩] 9 (0, 0))) : Chiefs w (some ⟨b, 0, none⟩) none b 0 0 0 2 0 2 LA [] := by
  refine ⟨rfl, rfl, by unfold maxLen; omega, Nat.zero_le _, Nat.le_refl _, strs_la h, ⟨fun h => by simp at h, fun k h => by simp at h, fun k h => by simp at h, fun h => by simp at h⟩, ?_⟩
  intro s hs
  simp [LA] at hs
  rcases hs with rfl | rfl <;> (unfold maxLen; decide)
theorem lab_xa {w : World} {b q : Nat} (h0 : w.heap[q]? = some (.cells #[.string ⟨#[98]⟩] 9 (0, 0))) (h : w.heap[b]? = some (.cells #[.string ⟨#[97]⟩, .slice (some ⟨q, 0, none⟩) 1 1, .string ⟨#[98]⟩, .slice none 0 0] 37 (0, 0))) : LabAt w (some ⟨b, 0, none⟩) b 0 2 2 XA := by
  refine ⟨rfl, by unfold maxLen; omega, Nat.le_refl _, ⟨fun _ => rfl, ?_, ?_, fun _ => lt_of_block h⟩, ?_⟩
  · intro k hk
    match k, hk with
    | 0, _ => simp [World.cell?, h, XA]
    | 1, _ => simp [World.cell?, h, XA]
  · intro k hk
    match k, hk with
    | 0, _ =>
      refine ⟨.slice (some ⟨q, 0, none⟩) 1 1, by simp [World.cell?, h], some ⟨q, 0, none⟩, q, 0, 1, rfl, Nat.le_refl _, by unfold maxLen; omega, ⟨fun _ => rfl, ?_, fun _ => lt_of_block h0⟩⟩
      intro j hj
      match j, hj with
      | 0, _ => simp [World.cell?, h0, XA]
    | 1, _ =>
      refine ⟨.slice none 0 0, by simp [World.cell?, h], none, 0, 0, 0, rfl, Nat.le_refl _, Nat.zero_le _, ⟨fun h => by simp [XA] at h, fun j hj => by simp [XA] at hj, fun h => by simp [XA] at h⟩⟩
  · intro p hp
    simp [XA] at hp
    rcases hp with rfl | rfl
    · refine ⟨by unfold maxLen; decide, fun r hr => ?_⟩
      simp at hr
      subst hr
      unfold maxLen; decide
    · refine ⟨by unfold maxLen; decide, fun r hr => ?_⟩
      simp at hr
theorem lab_nil (w : World) : LabAt w none 0 0 0 0 [] :=
  ⟨rfl, Nat.zero_le _, Nat.le_refl _, ⟨fun h => by simp at h, fun k h => by simp at h, fun k h => by simp at h, fun h => by simp at h⟩, fun p hp => by cases hp⟩
theorem LabAt.p {w : World} {ao : Option Addr} {b off n c : Nat} {x : List Pol} (h : LabAt w ao b off n c x) : LabP w ao b off n c x := ⟨h.ln, h.mn, h.pols⟩

set_option maxRecDepth 100000 in
set_option maxHeartbeats 2000000 in
theorem labelled_any (w : World) : Calls Tryz.prog 8 #[] w fun e w' => e = .returned (.bool true) ∧ Below w.heap.size w w' := by
  obtain ⟨wz, hwz⟩ : ∃ wz, wz = ((w.alloc (.cells #[.string ⟨#[98]⟩] 9)).alloc (.cells #[.string ⟨#[97]⟩, .slice (some ⟨w.heap.size, 0, none⟩) 1 1, .string ⟨#[98]⟩, .slice none 0 0] 37)).alloc (.cells #[.string ⟨#[97]⟩, .string ⟨#[98]⟩] 9) := ⟨_, rfl⟩
  have hbz : Below w.heap.size w wz := by rw [hwz]; exact (((Below.refl _ _).alloc (Nat.le_refl _) _).alloc (by simp) _).alloc (by simp; omega) _
  have k0 : wz.heap[w.heap.size]? = some (.cells #[.string ⟨#[98]⟩] 9 (0, 0)) := by rw [hwz]; exact heap_past_alloc (heap_past_alloc (heap_at_alloc _ _ _ rfl))
  have k1 : wz.heap[w.heap.size + 1]? = some (.cells #[.string ⟨#[97]⟩, .slice (some ⟨w.heap.size, 0, none⟩) 1 1, .string ⟨#[98]⟩, .slice none 0 0] 37 (0, 0)) := by rw [hwz]; exact heap_past_alloc (heap_at_alloc _ _ _ (by simp))
  have k2 : wz.heap[w.heap.size + 1 + 1]? = some (.cells #[.string ⟨#[97]⟩, .string ⟨#[98]⟩] 9 (0, 0)) := by rw [hwz]; exact heap_at_alloc _ _ _ (by simp)
  have HX : Hid (LabAt wz (some ⟨w.heap.size + 1, 0, none⟩) (w.heap.size + 1) 0 2 2 XA) := lab_xa k0 k1
  have hrd := readsC (some ⟨w.heap.size + 1 + 1, 0, none⟩) none (some ⟨w.heap.size + 1, 0, none⟩) (w.heap.size + 1 + 1) 0 0 0 2 0 2 0 (w.heap.size + 1) 0 2 2 LA [] XA wz (chiefs_la k2) HX.out
  rw [la_reads.1, la_reads.2] at hrd
  have HRD : Hid (Calls Tryz.prog 25 #[.slice (some ⟨w.heap.size + 1 + 1, 0, none⟩) 2 2, .slice none 0 0, .slice (some ⟨w.heap.size + 1, 0, none⟩) 2 2] wz fun e w' => ∃ v, e = .returned (.tuple #[v, .int .i64 0]) ∧ w'.ownsRow wz.heap.size 9 1 v 1 (strC [⟨#[98]⟩]) ∧ Below wz.heap.size wz w') := hrd
  have HWZ : Hid (wz = ((w.alloc (.cells #[.string ⟨#[98]⟩] 9)).alloc (.cells #[.string ⟨#[97]⟩, .slice (some ⟨w.heap.size, 0, none⟩) 1 1, .string ⟨#[98]⟩, .slice none 0 0] 37)).alloc (.cells #[.string ⟨#[97]⟩, .string ⟨#[98]⟩] 9)) := hwz
  have HBZ : Hid (Below w.heap.size w wz) := hbz
  clear hrd hwz hbz k0 k1 k2
  go_enter Tryz.func8, Tryz.ntmps8
  go_wp2_with fail
  rw [← HWZ.out]
  refine HRD.out.mono ?_
  rintro e w1 ⟨v, rfl, hown, hb1⟩
  obtain ⟨ao, ab, cap, hv, hc1, hc2, hss⟩ := strs_of_own (l := [⟨#[98]⟩]) hown
  have hv' : v = .slice ao 1 cap := hv
  subst hv'
  have HSS : Hid (Strs w1 ao ab 0 [⟨#[98]⟩]) := hss
  have HB1 : Hid (Below w.heap.size w w1) := HBZ.out.trans (hb1.mono HBZ.out.size)
  have HX1 : Hid (LabAt w1 (some ⟨w.heap.size + 1, 0, none⟩) (w.heap.size + 1) 0 2 2 XA) := HX.out.later hb1
  have hpr := printC _ _ _ _ 2 XA w1 HX1.out.p
  rw [la_print.1, la_print.2] at hpr
  clear hown hb1 hc1 hc2 hss hv HRD HWZ HX HBZ
  go_wp2_with fail
  refine hpr.mono ?_
  rintro e w2 ⟨rfl, hb2⟩
  obtain ⟨wy, hwy⟩ : ∃ wy, wy = w2.alloc (.cells #[.string ⟨#[97]⟩, .string ⟨#[98]⟩] 9) := ⟨_, rfl⟩
  have hby : Below w2.heap.size w2 wy := by rw [hwy]; exact (Below.refl _ _).alloc (Nat.le_refl _) _
  have k2 : wy.heap[w2.heap.size]? = some (.cells #[.string ⟨#[97]⟩, .string ⟨#[98]⟩] 9 (0, 0)) := by rw [hwy]; exact heap_at_alloc _ _ _ rfl
  have hb12 : Below w1.heap.size w1 wy := hb2.trans (hby.mono hb2.size)
  have HB2 : Hid (Below w.heap.size w wy) := HB1.out.trans (hb12.mono HB1.out.size)
  have HSS2 : Hid (Strs wy ao ab 0 [⟨#[98]⟩]) := HSS.out.later hb12
  have hfl := flowsC (some ⟨w2.heap.size, 0, none⟩) none none (some ⟨w.heap.size + 1, 0, none⟩) w2.heap.size 0 0 0 2 0 2 0 0 0 0 0 (w.heap.size + 1) 0 2 2 LA [] [] XA wy (chiefs_la k2) (lab_nil wy) (HX1.out.later hb12)
  rw [la_flows.1, la_flows.2] at hfl
  have HFL : Hid (Calls Tryz.prog 27 #[.slice (some ⟨w2.heap.size, 0, none⟩) 2 2, .slice none 0 0, .slice none 0 0, .slice (some ⟨w.heap.size + 1, 0, none⟩) 2 2] wy fun e w' => e = .returned (.tuple #[.bool true, .int .i64 0]) ∧ Below wy.heap.size wy w') := hfl
  have HWY : Hid (wy = w2.alloc (.cells #[.string ⟨#[97]⟩, .string ⟨#[98]⟩] 9)) := hwy
  clear hfl hwy hby k2 hb12 hb2 hpr HX1 HSS HB1
  go_wp2_with fail
  rw [← HWY.out]
  refine HFL.out.mono ?_
  rintro e w3 ⟨rfl, hb3⟩
  have HB3 : Hid (Below w.heap.size w (w3.alloc (.cells #[.string ⟨#[98]⟩] 9))) := by
    have h := HB2.out.trans (hb3.mono HB2.out.size)
    exact h.alloc h.size _
  have HEQ : Hid (Calls Tryz.prog 28 #[.slice ao 1 cap, .slice (some ⟨w3.heap.size, 0, none⟩) 1 1] (w3.alloc (.cells #[.string ⟨#[98]⟩] 9)) fun e w' => e = .returned (.bool true) ∧ Below (w3.alloc (.cells #[.string ⟨#[98]⟩] 9)).heap.size (w3.alloc (.cells #[.string ⟨#[98]⟩] 9)) w') := by
    obtain ⟨wv, hwv⟩ : ∃ wv, wv = w3.alloc (.cells #[.string ⟨#[98]⟩] 9) := ⟨_, rfl⟩
    have kk : wv.heap[w3.heap.size]? = some (.cells #[.string ⟨#[98]⟩] 9 (0, 0)) := by rw [hwv]; exact heap_at_alloc _ _ _ rfl
    have hbv : Below w3.heap.size w3 wv := by rw [hwv]; exact (Below.refl _ _).alloc (Nat.le_refl _) _
    rw [← hwv]
    refine eqStr ao (some ⟨w3.heap.size, 0, none⟩) ab 0 w3.heap.size 0 1 cap 1 [⟨#[98]⟩] _ rfl (by omega) ((HSS2.out.later hb3).later hbv) ⟨fun _ => rfl, ?_, fun _ => lt_of_block kk⟩
    intro k hk
    match k, hk with
    | 0, _ => simp [World.cell?, kk]
  clear hb3 HFL HWY HSS2 HB2
  go_wp2_with fail
  refine HEQ.out.mono ?_
  rintro e w4 ⟨rfl, hb4⟩
  go_wp2
  go_ret
  exact ⟨rfl, HB3.out.trans (hb4.mono HB3.out.size)⟩
end Go.Proofs.YtjfiakoningmkaaGreatDoor
