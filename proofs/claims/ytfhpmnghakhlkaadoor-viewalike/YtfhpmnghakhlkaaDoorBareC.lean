/- Contract of view.bare: an event without its label. -/
import Derived.Test.YtfhpmnghakhlkaaDoorEvC
import Derived.Test.YtfhpmnghakhlkaaDoorCloneV
namespace Go.Proofs.YtfhpmnghakhlkaaDoor
open Go.RowKit

theorem below_dr (w : World) : Below w.heap.size w w.drew := ⟨rfl, rfl, rfl, Nat.le_refl _, fun _ _ => rfl⟩
set_option maxRecDepth 100000 in
set_option maxHeartbeats 1000000 in
theorem bareC (s : ByteArray) (i : Int) (lo : Option Addr) (ln lc : Nat) (w : World) (hs : s.size ≤ 281474976710656) :
    Calls Tryd.prog 22 #[.agg #[.string s, .int .i64 i, .slice lo ln lc]] w fun e w' => e = .returned (.agg #[.string s, .int .i64 i, .slice none 0 0]) ∧ Below w.heap.size w w' := by
  obtain ⟨wz, hwz⟩ : ∃ wz, wz = (w.alloc (.cells #[.string s, .int .i64 i, .slice lo ln lc] 35)).alloc (.cells #[.string ⟨#[]⟩, .int .i64 0, .slice none 0 0] 35) := ⟨_, rfl⟩
  have HB : Hid (Below w.heap.size w wz) := by rw [hwz]; exact ((Below.refl _ _).alloc (Nat.le_refl _) _).alloc (by simp) _
  have k0 : wz.heap[w.heap.size]? = some (.cells #[.string s, .int .i64 i, .slice lo ln lc] 35 (0, 0)) := by rw [hwz]; exact heap_past_alloc (heap_at_alloc _ _ _ rfl)
  have k1 : wz.heap[w.heap.size + 1]? = some (.cells #[.string ⟨#[]⟩, .int .i64 0, .slice none 0 0] 35 (0, 0)) := by rw [hwz]; exact heap_at_alloc _ _ _ (by simp)
  have HWZ : Hid (wz = (w.alloc (.cells #[.string s, .int .i64 i, .slice lo ln lc] 35)).alloc (.cells #[.string ⟨#[]⟩, .int .i64 0, .slice none 0 0] 35)) := hwz
  have HCL : Hid (∀ W : World, Below wz.heap.size wz W → Calls Tryd.prog 36 #[.string s] W fun e w' => e = .returned (.string s) ∧ Below wz.heap.size wz w') := fun W hW => (cloneW s W hs).mono fun e w' ⟨h1, h2⟩ => ⟨h1, hW.trans (h2.mono hW.size)⟩
  have HY : Hid (∀ W : World, Below wz.heap.size wz W → W.cell? ⟨w.heap.size, 0, none⟩ = some (.string s) ∧ W.cell? ⟨w.heap.size, 1, none⟩ = some (.int .i64 i) ∧ W.cell? ⟨w.heap.size + 1, 0, none⟩ = some (.string ⟨#[]⟩) ∧ W.cell? ⟨w.heap.size + 1, 1, none⟩ = some (.int .i64 0) ∧ W.cell? ⟨w.heap.size + 1, 2, none⟩ = some (.slice none 0 0) ∧ W.frozen? ⟨w.heap.size + 1, 0, none⟩ = false ∧ W.frozen? ⟨w.heap.size + 1, 1, none⟩ = false ∧ W.frozen? ⟨w.heap.size + 1, 2, none⟩ = false ∧ w.heap.size < W.heap.size ∧ w.heap.size + 1 < W.heap.size) := fun W hW => by
    have e0 := (hW.block _ (lt_of_block k0)).trans k0
    have e1 := (hW.block _ (lt_of_block k1)).trans k1
    exact ⟨by simp [World.cell?, e0], by simp [World.cell?, e0], by simp [World.cell?, e1], by simp [World.cell?, e1], by simp [World.cell?, e1], by simp [World.frozen?, e1], by simp [World.frozen?, e1], by simp [World.frozen?, e1], lt_of_block e0, lt_of_block e1⟩
  have K0 : Hid (wz.heap[w.heap.size]? = some (.cells #[.string s, .int .i64 i, .slice lo ln lc] 35 (0, 0))) := k0
  have K1 : Hid (wz.heap[w.heap.size + 1]? = some (.cells #[.string ⟨#[]⟩, .int .i64 0, .slice none 0 0] 35 (0, 0))) := k1
  have c0 : wz.cell? ⟨w.heap.size, 0, none⟩ = some (.string s) := by simp [World.cell?, k0]
  have c1 : wz.cell? ⟨w.heap.size, 1, none⟩ = some (.int .i64 i) := by simp [World.cell?, k0]
  have l0 := lt_of_block k0
  have l1 := lt_of_block k1
  clear hs hwz k0 k1
  go_enter Tryd.func22, Tryd.ntmps22
  go_upto_region 1 with fail
  rw [← HWZ.out]
  clear HWZ
  go_region_with (go_at_call 36; refine (HCL.out _ (by exact below_dr _)).mono ?_; rintro e w1 ⟨rfl, hb1⟩; obtain ⟨y0, y1, r0, r1, r2, z0, z1, z2, m0, m1⟩ := HY.out w1 hb1; have HB1 : Hid (Below wz.heap.size wz w1) := hb1; clear hb1)
  all_goals go_wp2
  all_goals refine bodyPost_ret (v := .agg #[.string s, .int .i64 i, .slice none 0 0]) (by simp [results, Tryd.results22, go_sem, r0, r1, r2]) rfl ⟨rfl, ?_⟩
  all_goals (have hbw := HB.out.trans (HB1.out.mono HB.out.size); exact ((hbw.setCell (by simp) _).setCell (by simp) _).setCell (by simp) _)
end Go.Proofs.YtfhpmnghakhlkaaDoor
