/- The law LabelFlows, walked. -/
import Derived.Test.YtjidnkecjkngnaaDoorLabelled
import Derived.Test.YtjidnkecjkngnaaDoorRefK
namespace Go.Proofs.YtjidnkecjkngnaaDoor
open Go.RowKit

theorem labs_one {w : World} {sb : Nat} {lo : Option Addr} {lb loff ln lc : Nat} {x : List Pol} (h : w.heap[sb]? = some (.cells #[.slice lo ln lc] 25 (0, 0))) (hx : LabAt w lo lb loff ln lc x) : LabsAt w sb 1 [x] := by
  refine ⟨rfl, lt_of_block h, fun k hk => ?_⟩
  match k, hk with
  | 0, _ => exact ⟨lo, lb, loff, ln, lc, by simp [World.cell?, h], hx⟩
theorem labs_two {w : World} {sb : Nat} {lo mo : Option Addr} {lb loff ln lc mb moff mn mc : Nat} {x y : List Pol} (h : w.heap[sb]? = some (.cells #[.slice lo ln lc, .slice mo mn mc] 25 (0, 0))) (hx : LabAt w lo lb loff ln lc x) (hy : LabAt w mo mb moff mn mc y) : LabsAt w sb 2 [x, y] := by
  refine ⟨rfl, lt_of_block h, fun k hk => ?_⟩
  match k, hk with
  | 0, _ => exact ⟨lo, lb, loff, ln, lc, by simp [World.cell?, h], hx⟩
  | 1, _ => exact ⟨mo, mb, moff, mn, mc, by simp [World.cell?, h], hy⟩
theorem good_of {w : World} {lo : Option Addr} {lb loff ln lc : Nat} {ls : List ByteArray} {ps : List (ByteArray × ByteArray)} {x : List Pol} (hx : LabAt w lo lb loff ln lc x) (h : checkL ls ps x = 0) : Good w lo lb loff ln ls x := by
  obtain ⟨_, h1, h2, h3⟩ := checkL_ok h
  exact ⟨hx.ln, by have := hx.ln; omega, hx.pols, h2, fun p hp => by have := h3 p hp; omega⟩
theorem pairs_of {w : World} {ao po : Option Addr} {b off b' off' n m c : Nat} {ls : List ByteArray} {ps : List (ByteArray × ByteArray)} (hc : Chiefs w ao po b off b' off' n m c ls ps) (h : checkF ls ps = 0) : Pairs w po b' off' m ps := by
  obtain ⟨_, h2, _, _⟩ := right_of h
  exact ⟨hc.lm, by have := hc.lm; omega, hc.prs⟩

set_option maxRecDepth 100000 in
set_option maxHeartbeats 4000000 in
theorem law_flows (ao po xo yo : Option Addr) (b off b' off' n m c d xb xoff xn xc yb yoff yn yc : Nat) (mx : Int) (ls : List ByteArray) (ps : List (ByteArray × ByteArray)) (x y : List Pol) (w : World) (hc : Chiefs w ao po b off b' off' n m c ls ps)
    (hx : LabAt w xo xb xoff xn xc x) (hy : LabAt w yo yb yoff yn yc y) (hpz : ∀ p ∈ ps, p.1.size ≤ maxLen ∧ p.2.size ≤ maxLen) (hmx : w.cell? ⟨0, 0, none⟩ = some (.int .i64 mx)) :
    Calls Tryd.prog 3 #[.slice ao n c, .slice po m d, .slice xo xn xc, .slice yo yn yc] w fun e w' => e = .returned (.bool true) ∧ Below w.heap.size w w' := by
  have HC : Hid (Chiefs w ao po b off b' off' n m c ls ps) := hc
  have HX : Hid (LabAt w xo xb xoff xn xc x) := hx
  have HY : Hid (LabAt w yo yb yoff yn yc y) := hy
  have HPZ : Hid (∀ p ∈ ps, p.1.size ≤ maxLen ∧ p.2.size ≤ maxLen) := hpz
  have HMX : Hid (∀ W, Below w.heap.size w W → W.cell? ⟨0, 0, none⟩ = some (.int .i64 mx)) := fun W hW => (hW.cell (p := ⟨0, 0, none⟩) (World.block_lt_of_cell? w _ hmx)).trans hmx
  have h1 := flowsC ao po xo yo b off b' off' n m c d xb xoff xn xc yb yoff yn yc ls ps x y w hc hx hy
  clear hc hx hy hpz hmx
  obtain ⟨e1, he1⟩ : ∃ e1, e1 = bothL ls ps x y := ⟨_, rfl⟩
  obtain ⟨e2, he2⟩ : ∃ e2, e2 = checkL ls ps x := ⟨_, rfl⟩
  obtain ⟨t1, ht1⟩ : ∃ t, t = flowsV ls ps x y := ⟨_, rfl⟩
  rw [← he1, ← ht1] at h1
  have HE1 : Hid (bothL ls ps x y = e1) := he1.symm
  have HE2 : Hid (checkL ls ps x = e2) := he2.symm
  have HT1 : Hid (flowsV ls ps x y = t1) := ht1.symm
  clear he1 he2 ht1
  go_enter Tryd.func3, Tryd.ntmps3
  go_wp2_with fail
  refine h1.mono ?_
  rintro e w1 ⟨rfl, hb1⟩
  have HB1 : Hid (Below w.heap.size w w1) := hb1
  have h2 := readsC ao po xo b off b' off' n m c d xb xoff xn xc ls ps x w1 (HC.out.later hb1) (HX.out.later hb1)
  rw [HE2.out] at h2
  clear h1 hb1
  go_wp2_with fail
  refine h2.mono ?_
  rintro e w2 ⟨v, rfl, hown, hb2⟩
  have HB2 : Hid (Below w.heap.size w w2) := HB1.out.trans (hb2.mono HB1.out.size)
  obtain ⟨a4, g4, c4, hv4, _, _, ss4⟩ := strs_of_own hown
  subst hv4
  obtain ⟨N4, hN4⟩ : ∃ N4, N4 = (readsV ls ps x).length := ⟨_, rfl⟩
  rw [← hN4]
  have HN4 : Hid (N4 = (readsV ls ps x).length) := hN4
  have HS4 : Hid (Strs w2 a4 g4 0 (readsV ls ps x)) := ss4
  obtain ⟨wa, hwa⟩ : ∃ wa, wa = w2.alloc (.cells #[.slice xo xn xc] 25) := ⟨_, rfl⟩
  have hba : Below w2.heap.size w2 wa := by rw [hwa]; exact (Below.refl _ _).alloc (Nat.le_refl _) _
  have HBA : Hid (Below w.heap.size w wa) := HB2.out.trans (hba.mono HB2.out.size)
  have ka : wa.heap[w2.heap.size]? = some (.cells #[.slice xo xn xc] 25 (0, 0)) := by rw [hwa]; exact heap_at_alloc _ _ _ rfl
  have h3 := badR ao po b off b' off' n m c d w2.heap.size 1 1 mx ls ps [x] wa (HC.out.later HBA.out) HPZ.out (HMX.out wa HBA.out) (labs_one ka (HX.out.later HBA.out)) (by omega)
  rw [bad_one, HE2.out] at h3
  have H3 : Hid (Calls Tryd.prog 6 #[.slice ao n c, .slice po m d, .slice (some ⟨w2.heap.size, 0, none⟩) 1 1] wa fun e w' => e = .returned (.int .i64 e2) ∧ Below wa.heap.size wa w') := h3
  have HWA : Hid (wa = w2.alloc (.cells #[.slice xo xn xc] 25)) := hwa
  have HB2A : Hid (Below w2.heap.size w2 wa) := hba
  clear hown hb2 ss4 hN4 h2 h3 hba hwa ka HB1
  go_wp2_with fail
  rw [← HWA.out]
  refine H3.out.mono ?_
  rintro e w3 ⟨rfl, hb3⟩
  have HB23 : Hid (Below w2.heap.size w2 w3) := HB2A.out.trans (hb3.mono HB2A.out.size)
  have HB3 : Hid (Below w.heap.size w w3) := HB2.out.trans (HB23.out.mono HB2.out.size)
  obtain ⟨wb, hwb⟩ : ∃ wb, wb = w3.alloc (.cells #[.slice xo xn xc, .slice yo yn yc] 25) := ⟨_, rfl⟩
  have hbb : Below w3.heap.size w3 wb := by rw [hwb]; exact (Below.refl _ _).alloc (Nat.le_refl _) _
  have HBB : Hid (Below w.heap.size w wb) := HB3.out.trans (hbb.mono HB3.out.size)
  have kb : wb.heap[w3.heap.size]? = some (.cells #[.slice xo xn xc, .slice yo yn yc] 25 (0, 0)) := by rw [hwb]; exact heap_at_alloc _ _ _ rfl
  have h4 := badR ao po b off b' off' n m c d w3.heap.size 2 2 mx ls ps [x, y] wb (HC.out.later HBB.out) HPZ.out (HMX.out wb HBB.out) (labs_two kb (HX.out.later HBB.out) (HY.out.later HBB.out)) (by omega)
  rw [bad_two, HE1.out] at h4
  have H4 : Hid (Calls Tryd.prog 6 #[.slice ao n c, .slice po m d, .slice (some ⟨w3.heap.size, 0, none⟩) 2 2] wb fun e w' => e = .returned (.int .i64 e1) ∧ Below wb.heap.size wb w') := h4
  have HWB : Hid (wb = w3.alloc (.cells #[.slice xo xn xc, .slice yo yn yc] 25)) := hwb
  have HB2B : Hid (Below w2.heap.size w2 wb) := HB23.out.trans (hbb.mono HB23.out.size)
  clear hb3 h4 hbb hwb kb H3 HWA HB2A HBA HB23 HB3
  go_wp2_with fail
  rw [← HWB.out]
  refine H4.out.mono ?_
  rintro e w4 ⟨rfl, hb4⟩
  have HB24 : Hid (Below w2.heap.size w2 w4) := HB2B.out.trans (hb4.mono HB2B.out.size)
  clear hb4 H4 HWB HB2B HBB
  go_wp2_with fail
  refine (labelled_any _).mono ?_
  rintro e w5 ⟨rfl, hb5⟩
  have HB25 : Hid (Below w2.heap.size w2 w5) := HB24.out.trans (hb5.mono HB24.out.size)
  have HB5 : Hid (Below w.heap.size w w5) := HB2.out.trans (HB25.out.mono HB2.out.size)
  have h6 := checkLab ao po xo b off b' off' n m c d xb xoff xn xc ls ps x w5 (HC.out.later HB5.out) (HX.out.later HB5.out)
  rw [HE2.out] at h6
  clear hb5 HB24
  go_wp2_with fail
  refine h6.mono ?_
  rintro e w6 ⟨rfl, hb6⟩
  have HB26 : Hid (Below w2.heap.size w2 w6) := HB25.out.trans (hb6.mono HB25.out.size)
  have HB6 : Hid (Below w.heap.size w w6) := HB2.out.trans (HB26.out.mono HB2.out.size)
  clear hb6 HB25 HB5 h6
  have bself : ∀ e : Int, (e != e) = false := by simp
  have beq : ∀ e : Int, (e == e) = true := by simp
  by_cases g2 : e2 = 0
  · have HZ : Hid (checkF ls ps = 0) := (checkL_ok (HE2.out.trans g2)).1
    have HRV : Hid (readsV ls ps x = Lab.readsF ls ps x) := by show _ = _; unfold readsV; rw [if_pos (HE2.out.trans g2)]
    obtain ⟨r6, _, rr, _⟩ := right_of HZ.out
    have HR : Hid (Act.Right ls ps) := rr
    have hC6 := HC.out.later HB6.out
    have h7 := readersR ao po xo b off b' off' n m c d xb xoff xn xc ls ps x w6 hC6.ln (by have := hC6.ln; omega) hC6.strs (pairs_of hC6 HZ.out) rr (good_of (HX.out.later HB6.out) (HE2.out.trans g2))
    have hN6 : N4 ≤ 6 := by
      have h := HN4.out
      rw [HRV.out] at h
      have := List.length_filter_le (fun c => Lab.readsB ls ps x c) ls
      unfold Lab.readsF at h
      omega
    have HG2 : Hid (checkL ls ps x = 0) := HE2.out.trans g2
    subst g2
    clear hC6 rr r6 HE2
    go_wp2_with fail
    refine h7.mono ?_
    rintro e w7 ⟨v7, rfl, hown7, hb7⟩
    obtain ⟨a7, g7, c7, hv7, _, _, ss7⟩ := strs_of_own hown7
    subst hv7
    have HN7 : Hid ((Lab.readsF ls ps x).length = N4) := by show _ = _; rw [HN4.out, HRV.out]
    rw [HN7.out]
    have HB7 : Hid (Below w.heap.size w w7) := HB6.out.trans (hb7.mono HB6.out.size)
    have hq := eqStr a4 a7 g4 0 g7 0 N4 c4 c7 (Lab.readsF ls ps x) w7 HN7.out.symm (by omega) (by rw [← HRV.out]; exact (HS4.out.later HB26.out).later hb7) ss7
    clear hown7 hb7 ss7 h7
    go_wp2_with fail
    refine hq.mono ?_
    rintro e w8 ⟨rfl, hb8⟩
    have HB8 : Hid (Below w.heap.size w w8) := HB7.out.trans (hb8.mono HB7.out.size)
    clear hq hb8
    by_cases g1 : e1 = 0
    · have HT : Hid (flowsV ls ps x y = Lab.flowsB ls ps x y) := by show _ = _; simp [flowsV, HE1.out, g1]
      have hcy := (both_ok (HE1.out.trans g1)).2
      have hC8 := HC.out.later HB8.out
      have h9 := mayGoR po xo yo b' off' m d xb xoff xn xc yb yoff yn yc ls ps x y w8 (pairs_of hC8 HZ.out) HR.out (good_of (HX.out.later HB8.out) HG2.out) (good_of (HY.out.later HB8.out) hcy)
      rw [← HT.out, HT1.out] at h9
      subst g1
      clear hcy hC8
      go_wp2_with fail
      refine h9.mono ?_
      rintro e w9 ⟨rfl, hb9⟩
      have bt : (t1 == t1) = true := by simp
      go_wp2
      go_ret
      exact ⟨by simp, HB8.out.trans (hb9.mono HB8.out.size)⟩
    · have bn : (e1 == 0) = false := by simp [g1]
      have bb : (e1 != 0) = true := by simp [g1]
      have q1 : t1 = false := by rw [← HT1.out]; simp [flowsV, HE1.out, g1]
      subst q1
      go_wp2
      go_ret
      exact ⟨by simp, HB8.out⟩
  · have bn : (e2 == 0) = false := by simp [g2]
    have bb : (e2 != 0) = true := by simp [g2]
    have q0 : e1 = e2 := by
      rw [← HE1.out, ← HE2.out]
      unfold bothL
      rw [if_neg (by rw [HE2.out]; exact g2)]
    have q1 : t1 = false := by rw [← HT1.out]; simp [flowsV, HE1.out, q0, g2]
    have q2 : N4 = 0 := by
      have h := HN4.out
      unfold readsV at h
      rw [if_neg (by rw [HE2.out]; exact g2)] at h
      simpa using h
    subst q1 q2
    clear HE1 HE2 HT1 HN4 HS4
    subst q0
    go_wp2
    go_ret
    exact ⟨by simp, HB6.out⟩
end Go.Proofs.YtjidnkecjkngnaaDoor
