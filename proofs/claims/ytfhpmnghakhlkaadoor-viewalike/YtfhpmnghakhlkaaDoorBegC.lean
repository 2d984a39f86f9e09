/- Contracts of view.Begins and of the law's bare: events alike, whatever their labels. -/
import Derived.Test.YtfhpmnghakhlkaaDoorEvEq
namespace Go.Proofs.YtfhpmnghakhlkaaDoor
open Go.RowKit

set_option maxRecDepth 100000 in
set_option maxHeartbeats 1000000 in
theorem begins1 (x y : Ev3) (w : World) (hx : ∃ lo ln lc, x.2.2 = .slice lo ln lc) (hy : ∃ lo ln lc, y.2.2 = .slice lo ln lc) :
    Calls Tryd.prog 23 #[evA x, evA y] w fun e w' => e = .returned (.bool (sameF x y)) ∧ Below w.heap.size w w' := by
  obtain ⟨s, i, xv⟩ := x
  obtain ⟨s', i', yv⟩ := y
  obtain ⟨xo, xn, xc, hx⟩ := hx
  obtain ⟨yo, yn, yc, hy⟩ := hy
  simp only at hx hy
  subst hx hy
  unfold evA sameF
  simp only
  obtain ⟨wz, hwz⟩ : ∃ wz, wz = (w.alloc (.cells #[.string s, .int .i64 i, .slice xo xn xc] 35)).alloc (.cells #[.string s', .int .i64 i', .slice yo yn yc] 35) := ⟨_, rfl⟩
  have HB : Hid (Below w.heap.size w wz) := by rw [hwz]; exact ((Below.refl _ _).alloc (Nat.le_refl _) _).alloc (by simp) _
  have HWZ : Hid (wz = (w.alloc (.cells #[.string s, .int .i64 i, .slice xo xn xc] 35)).alloc (.cells #[.string s', .int .i64 i', .slice yo yn yc] 35)) := hwz
  clear hwz
  by_cases hs : s = s'
  · by_cases hi : i = i'
    · have HE : Hid ((decide (s = s') && decide (i = i')) = true) := by show _ = _; simp [hs, hi]
      rw [HE.out]
      clear HE
      subst hs hi
      go_enter Tryd.func23, Tryd.ntmps23
      go_wp2
      go_ret
      refine ⟨rfl, ?_⟩
      rw [← HWZ.out]; exact HB.out
    · have HE : Hid ((decide (s = s') && decide (i = i')) = false) := by show _ = _; simp [hi]
      rw [HE.out]
      have bn : (i == i') = false := by simp [hi]
      clear HE hi
      subst hs
      go_enter Tryd.func23, Tryd.ntmps23
      go_wp2
      go_ret
      refine ⟨rfl, ?_⟩
      rw [← HWZ.out]; exact HB.out
  · have HE : Hid ((decide (s = s') && decide (i = i')) = false) := by show _ = _; simp [hs]
    rw [HE.out]
    have bn := beq_ne hs
    clear HE hs
    go_enter Tryd.func23, Tryd.ntmps23
    go_wp2
    go_ret
    refine ⟨rfl, ?_⟩
    rw [← HWZ.out]; exact HB.out

set_option maxRecDepth 100000 in
set_option maxHeartbeats 1000000 in
theorem bare1 (x y : Ev3) (w : World) (hx : ∃ lo ln lc, x.2.2 = .slice lo ln lc) (hy : ∃ lo ln lc, y.2.2 = .slice lo ln lc) :
    Calls Tryd.prog 24 #[evA x, evA y] w fun e w' => e = .returned (.bool (sameF x y)) ∧ Below w.heap.size w w' := by
  obtain ⟨s, i, xv⟩ := x
  obtain ⟨s', i', yv⟩ := y
  obtain ⟨xo, xn, xc, hx⟩ := hx
  obtain ⟨yo, yn, yc, hy⟩ := hy
  simp only at hx hy
  subst hx hy
  unfold evA sameF
  simp only
  obtain ⟨wz, hwz⟩ : ∃ wz, wz = (w.alloc (.cells #[.string s, .int .i64 i, .slice xo xn xc] 35)).alloc (.cells #[.string s', .int .i64 i', .slice yo yn yc] 35) := ⟨_, rfl⟩
  have HB : Hid (Below w.heap.size w wz) := by rw [hwz]; exact ((Below.refl _ _).alloc (Nat.le_refl _) _).alloc (by simp) _
  have HWZ : Hid (wz = (w.alloc (.cells #[.string s, .int .i64 i, .slice xo xn xc] 35)).alloc (.cells #[.string s', .int .i64 i', .slice yo yn yc] 35)) := hwz
  clear hwz
  by_cases hs : s = s'
  · by_cases hi : i = i'
    · have HE : Hid ((decide (s = s') && decide (i = i')) = true) := by show _ = _; simp [hs, hi]
      rw [HE.out]
      clear HE
      subst hs hi
      go_enter Tryd.func24, Tryd.ntmps24
      go_wp2
      go_ret
      refine ⟨rfl, ?_⟩
      rw [← HWZ.out]; exact HB.out
    · have HE : Hid ((decide (s = s') && decide (i = i')) = false) := by show _ = _; simp [hi]
      rw [HE.out]
      have bn : (i == i') = false := by simp [hi]
      clear HE hi
      subst hs
      go_enter Tryd.func24, Tryd.ntmps24
      go_wp2
      go_ret
      refine ⟨rfl, ?_⟩
      rw [← HWZ.out]; exact HB.out
  · have HE : Hid ((decide (s = s') && decide (i = i')) = false) := by show _ = _; simp [hs]
    rw [HE.out]
    have bn := beq_ne hs
    clear HE hs
    go_enter Tryd.func24, Tryd.ntmps24
    go_wp2
    go_ret
    refine ⟨rfl, ?_⟩
    rw [← HWZ.out]; exact HB.out

set_option maxHeartbeats 1000000 in
theorem bareLC (lo mo : Option Addr) (lb loff mb moff n n' lc mc : Nat) (vs us : List Ev3) (w : World) (hn : n = vs.length) (hn' : n' = us.length) (hm : n ≤ maxLen) (hm' : n' ≤ maxLen) (h1 : EvV w lo lb loff vs) (h2 : EvV w mo mb moff us) :
    Calls Tryd.prog 9 #[.slice lo n lc, .slice mo n' mc] w fun e w' => e = .returned (.bool (eqF sameF vs us)) ∧ Below w.heap.size w w' := by
  have hcall := evEqual 24 #[] (enters_of Tryd.func24 (by kernel_rfl) rfl) sameF lo mo lb loff mb moff n n' lc mc vs us w hn hn' hm hm' h1 h2 (fun W x y hx hy _ => bare1 x y W (h1.sl x hx) (h2.sl y hy))
  obtain ⟨t, ht⟩ : ∃ t, t = eqF sameF vs us := ⟨_, rfl⟩
  rw [← ht] at hcall ⊢
  clear hn hn' hm hm' h1 h2 ht
  go_enter Tryd.func9, Tryd.ntmps9
  go_wp2_with fail
  refine hcall.mono ?_
  rintro e w1 ⟨rfl, hb1⟩
  go_wp2
  go_ret
  exact ⟨rfl, hb1⟩

set_option maxHeartbeats 2000000 in
theorem beginsC (lo mo : Option Addr) (lb loff mb moff n n' lc mc : Nat) (vs us : List Ev3) (w : World) (hn : n = vs.length) (hn' : n' = us.length) (hm : n ≤ maxLen) (hc : n' ≤ mc) (h1 : EvV w lo lb loff vs) (h2 : EvV w mo mb moff us) :
    Calls Tryd.prog 8 #[.slice lo n lc, .slice mo n' mc] w fun e w' => e = .returned (.bool (decide (n ≤ n') && eqF sameF vs (us.take n))) ∧ Below w.heap.size w w' := by
  by_cases h : n ≤ n'
  · have hcall := evEqual 23 #[] (enters_of Tryd.func23 (by kernel_rfl) rfl) sameF lo mo lb loff mb moff n n lc mc vs (us.take n) w hn (by rw [List.length_take]; omega) hm hm h1 (h2.take n) (fun W x y hx hy _ => begins1 x y W (h1.sl x hx) (h2.sl y (List.mem_of_mem_take hy)))
    obtain ⟨t, ht⟩ : ∃ t, t = eqF sameF vs (us.take n) := ⟨_, rfl⟩
    have hE : (decide (n ≤ n') && eqF sameF vs (us.take n)) = t := by rw [← ht]; simp [h]
    rw [hE]
    rw [← ht] at hcall
    have d1 : decide ((n : Int) ≤ (n' : Int)) = true := by simp; omega
    have d2 : decide (n ≤ n') = true := by simp; omega
    unfold maxLen at hm
    clear hn hn' h1 h2 ht hE
    go_enter Tryd.func8, Tryd.ntmps8
    go_wp2_with fail
    refine hcall.mono ?_
    rintro e w1 ⟨rfl, hb1⟩
    go_wp2
    go_ret
    exact ⟨rfl, hb1⟩
  · have hE : (decide (n ≤ n') && eqF sameF vs (us.take n)) = false := by simp [h]
    rw [hE]
    have d1 : decide ((n : Int) ≤ (n' : Int)) = false := by simp; omega
    have d2 : decide (n ≤ n') = false := by simp; omega
    unfold maxLen at hm
    clear hn hn' h1 h2 hE
    go_enter Tryd.func8, Tryd.ntmps8
    go_wp2
    go_ret
    exact ⟨rfl, Below.refl _ _⟩
end Go.Proofs.YtfhpmnghakhlkaaDoor
