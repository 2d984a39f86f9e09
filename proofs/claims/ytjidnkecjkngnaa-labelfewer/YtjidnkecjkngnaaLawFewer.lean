/- The law LabelFewer, walked. -/
import Derived.Test.YtjidnkecjkngnaaLabelled
import Derived.Test.YtjidnkecjkngnaaConcatL
namespace Go.Proofs.Ytjidnkecjkngnaa
open Go.RowKit

theorem few_all {ls : List ByteArray} {ps qs : List (ByteArray × ByteArray)} {a b : List Pol} (h : bothL ls ps a b = 0) (hf : flowsV ls ps a b = true) (h0 : checkF ls (ps ++ qs) = 0) :
    checkL ls (ps ++ qs) a = 0 ∧ checkL ls (ps ++ qs) b = 0 ∧ bothL ls (ps ++ qs) a b = 0 ∧ flowsV ls (ps ++ qs) a b = true ∧ ∀ s ∈ readsV ls (ps ++ qs) b, s ∈ readsV ls (ps ++ qs) a := by
  obtain ⟨g1, g2⟩ := both_ok h
  obtain ⟨_, a1, a2, a3⟩ := checkL_ok g1
  obtain ⟨_, b1, b2, b3⟩ := checkL_ok g2
  have k1 := checkL_of h0 a1 a2 a3
  have k2 := checkL_of h0 b1 b2 b3
  have k3 := both_of k1 k2
  have m : Lab.mayGo (ps ++ qs) a b := Lab.mayGo_more (fun p hp => List.mem_append_left _ hp) ((flowsV_iff h).1 hf)
  refine ⟨k1, k2, k3, (flowsV_iff k3).2 m, fun s hs => ?_⟩
  obtain ⟨s1, s2⟩ := (readsV_mem k2).1 hs
  exact (readsV_mem k1).2 ⟨s1, Lab.fewer m s2⟩
theorem few_none {ls : List ByteArray} {ps : List (ByteArray × ByteArray)} {a b : List Pol} (h0 : checkF ls ps ≠ 0) : checkL ls ps a = checkF ls ps ∧ checkL ls ps b = checkF ls ps ∧ bothL ls ps a b = checkF ls ps := by
  have k1 : ∀ x, checkL ls ps x = checkF ls ps := fun x => by unfold checkL; rw [if_neg h0]
  refine ⟨k1 a, k1 b, ?_⟩
  unfold bothL
  rw [k1 a, if_neg h0]
theorem reads_few (ls : List ByteArray) (ps : List (ByteArray × ByteArray)) (a : List Pol) (h : checkL ls ps a = 0) : (readsV ls ps a).length ≤ 1000 := by
  obtain ⟨h0, _⟩ := checkL_ok h
  obtain ⟨h6, _⟩ := right_of h0
  have e : readsV ls ps a = Lab.readsF ls ps a := by simp [readsV, h]
  rw [e]
  have := List.length_filter_le (fun c => Lab.readsB ls ps a c) ls
  unfold Lab.readsF; omega

theorem apart_any (s : ByteArray) (yb : Nat) (yo : Option Addr) (b off n c : Nat) (ys : List ByteArray) (w : World) (hy : w.cell? ⟨yb, 0, none⟩ = some (.slice yo n c)) (hl : n = ys.length) (hm : n ≤ 1000) (ht : Strs w yo b off ys) (hin : s ∈ ys) :
    Calls Try.prog 16 #[.string s, .pointer (some ⟨yb, 0, none⟩)] w fun e w' => e = .returned (.bool false) ∧ Below w.heap.size w w' := by
  have hct := contains_any yo b off n c ys s w hl (by unfold maxLen; omega) ht
  rw [Act.has_iff.2 hin] at hct
  clear hl ht hin
  go_enter Try.func16, Try.ntmps16
  go_wp2_with fail
  refine hct.mono ?_
  rintro e w1 ⟨rfl, hw⟩
  have hw' := hw.symm
  subst hw'
  go_wp2
  go_ret
  exact ⟨rfl, Below.refl _ _⟩

set_option maxRecDepth 100000 in
set_option maxHeartbeats 4000000 in
theorem law_fewer (ao po xo yo qo : Option Addr) (b off b' off' n m c d xb xoff xn xc yb yoff yn yc qb qoff r d' : Nat) (ls : List ByteArray) (ps qs : List (ByteArray × ByteArray)) (x y : List Pol) (w : World) (hc : Chiefs w ao po b off b' off' n m c ls ps)
    (hx : LabAt w xo xb xoff xn xc x) (hy : LabAt w yo yb yoff yn yc y) (hr : r = qs.length) (hq : Prs w qo qb qoff qs) (hb : (m + r) * 32 ≤ 281474976710656) :
    Calls Try.prog 4 #[.slice ao n c, .slice po m d, .slice xo xn xc, .slice yo yn yc, .slice qo r d'] w fun e w' => e = .returned (.bool true) ∧ Below w.heap.size w w' := by
  have HC : Hid (Chiefs w ao po b off b' off' n m c ls ps) := hc
  have HX : Hid (LabAt w xo xb xoff xn xc x) := hx
  have HY : Hid (LabAt w yo yb yoff yn yc y) := hy
  have HR : Hid (r = qs.length) := hr
  have HQ : Hid (Prs w qo qb qoff qs) := hq
  have HB : Hid ((m + r) * 32 ≤ 281474976710656) := hb
  have h1 := flowsC ao po xo yo b off b' off' n m c d xb xoff xn xc yb yoff yn yc ls ps x y w hc hx hy
  clear hc hx hy hr hq hb
  obtain ⟨e1, he1⟩ : ∃ e1, e1 = bothL ls ps x y := ⟨_, rfl⟩
  obtain ⟨t1, ht1⟩ : ∃ t, t = flowsV ls ps x y := ⟨_, rfl⟩
  rw [← he1, ← ht1] at h1
  have HE1 : Hid (bothL ls ps x y = e1) := he1.symm
  have HT1 : Hid (flowsV ls ps x y = t1) := ht1.symm
  clear he1 ht1
  go_enter Try.func4, Try.ntmps4
  go_wp2_with fail
  refine h1.mono ?_
  rintro e w1 ⟨rfl, hb1⟩
  have HB1 : Hid (Below w.heap.size w w1) := hb1
  clear h1 hb1
  go_wp2_with fail
  refine (labelled_any _).mono ?_
  rintro e w2 ⟨rfl, hb2⟩
  have HB2 : Hid (Below w.heap.size w w2) := HB1.out.trans (hb2.mono HB1.out.size)
  clear hb2 HB1
  by_cases g1 : e1 = 0
  · subst g1
    cases t1 with
    | false =>
      go_wp2_with fail
      refine (labelled_any _).mono ?_
      rintro e w6 ⟨rfl, hb6⟩
      go_wp2
      go_ret
      exact ⟨rfl, HB2.out.trans (hb6.mono HB2.out.size)⟩
    | true =>
      have HW3 : Hid (Below w2.heap.size w2 (w2.alloc (.cells #[.slice po m d, .slice qo r d'] 31))) := (Below.refl _ _).alloc (Nat.le_refl _) _
      have HC2 : Hid (Chiefs w2 ao po b off b' off' n m c ls ps) := HC.out.later HB2.out
      have HCC : Hid (Calls Try.prog 13 #[.slice (some ⟨w2.heap.size, 0, none⟩) 2 2] (w2.alloc (.cells #[.slice po m d, .slice qo r d'] 31)) fun e w' => ∃ v, e = .returned v ∧ w'.ownsRow (w2.alloc (.cells #[.slice po m d, .slice qo r d'] 31)).heap.size 35 2 v (ps ++ qs).length (prC (ps ++ qs)) ∧ Below (w2.alloc (.cells #[.slice po m d, .slice qo r d'] 31)).heap.size (w2.alloc (.cells #[.slice po m d, .slice qo r d'] 31)) w') :=
        concatP w2.heap.size po qo b' off' qb qoff m r d d' ps qs _ HC2.out.lm HR.out HB.out (World.cell?_alloc_at _ _ _ _ rfl) (World.cell?_alloc_at _ _ _ _ rfl) (by simp) (HC2.out.prs.later HW3.out) ((HQ.out.later HB2.out).later HW3.out)
      go_wp2_with fail
      refine HCC.out.mono ?_
      rintro e w3 ⟨v3, rfl, hown3, hb3⟩
      have HB23 : Hid (Below w2.heap.size w2 w3) := HW3.out.trans (hb3.mono (by simp))
      have HB3 : Hid (Below w.heap.size w w3) := HB2.out.trans (HB23.out.mono HB2.out.size)
      obtain ⟨bo, b3, cap3, hv3, hc3, hm3, hp3⟩ := prs_of_own hown3
      subst hv3
      obtain ⟨N, hN⟩ : ∃ N, N = (ps ++ qs).length := ⟨_, rfl⟩
      rw [← hN] at hc3 ⊢
      have HC3 : Hid (Chiefs w3 ao bo b off b3 0 n N c ls (ps ++ qs)) := by
        have h := HC2.out.later HB23.out
        exact ⟨h.ln, hN, h.mn, Nat.le_trans hc3 hm3, h.cap, h.strs, hp3, h.sz⟩
      have h4 := readsC ao bo xo b off b3 0 n N c cap3 xb xoff xn xc ls (ps ++ qs) x w3 HC3.out (HX.out.later HB3.out)
      clear hown3 hb3 hc3 hm3 hp3 hN HCC HW3 HC2 HB23 HB2
      obtain ⟨e2, he2⟩ : ∃ e2, e2 = checkL ls (ps ++ qs) x := ⟨_, rfl⟩
      obtain ⟨e3, he3⟩ : ∃ e3, e3 = checkL ls (ps ++ qs) y := ⟨_, rfl⟩
      obtain ⟨e4, he4⟩ : ∃ e4, e4 = bothL ls (ps ++ qs) x y := ⟨_, rfl⟩
      rw [← he2] at h4
      have HE2 : Hid (checkL ls (ps ++ qs) x = e2) := he2.symm
      have HE3 : Hid (checkL ls (ps ++ qs) y = e3) := he3.symm
      have HE4 : Hid (bothL ls (ps ++ qs) x y = e4) := he4.symm
      clear he2 he3 he4
      go_wp2_with fail
      refine h4.mono ?_
      rintro e w4 ⟨v4, rfl, hown4, hb4⟩
      have HB4 : Hid (Below w.heap.size w w4) := HB3.out.trans (hb4.mono HB3.out.size)
      obtain ⟨a4, g4, c4, hv4, _, _, ss4⟩ := strs_of_own hown4
      subst hv4
      obtain ⟨N4, hN4⟩ : ∃ N4, N4 = (readsV ls (ps ++ qs) x).length := ⟨_, rfl⟩
      rw [← hN4]
      have HN4 : Hid (N4 = (readsV ls (ps ++ qs) x).length) := hN4
      obtain ⟨wy, hwy⟩ : ∃ wy, wy = w4.alloc (.cells #[.slice a4 N4 c4] 30) := ⟨_, rfl⟩
      have hby : Below w4.heap.size w4 wy := by rw [hwy]; exact (Below.refl _ _).alloc (Nat.le_refl _) _
      have HS4 : Hid (Strs wy a4 g4 0 (readsV ls (ps ++ qs) x)) := ss4.later hby
      have HKY : Hid (wy.heap[w4.heap.size]? = some (.cells #[.slice a4 N4 c4] 30 (0, 0))) := by show _ = _; rw [hwy]; exact heap_at_alloc _ _ _ rfl
      have hb34 : Below w3.heap.size w3 wy := hb4.trans (hby.mono hb4.size)
      have HB5 : Hid (Below w.heap.size w wy) := HB3.out.trans (hb34.mono HB3.out.size)
      have HC4 : Hid (Chiefs wy ao bo b off b3 0 n N c ls (ps ++ qs)) := HC3.out.later hb34
      have h5 := readsC ao bo yo b off b3 0 n N c cap3 yb yoff yn yc ls (ps ++ qs) y wy HC4.out (HY.out.later HB5.out)
      rw [HE3.out] at h5
      have H5 : Hid (Calls Try.prog 14 #[.slice ao n c, .slice bo N cap3, .slice yo yn yc] wy fun e w' => ∃ v, e = .returned (.tuple #[v, .int .i64 e3]) ∧ w'.ownsRow wy.heap.size 9 1 v (readsV ls (ps ++ qs) y).length (strC (readsV ls (ps ++ qs) y)) ∧ Below wy.heap.size wy w') := h5
      have HWY : Hid (wy = w4.alloc (.cells #[.slice a4 N4 c4] 30)) := hwy
      clear hown4 hb4 ss4 hN4 h4 h5 hby hwy hb34 HC3 HB3 HB4
      go_wp2_with fail
      rw [← HWY.out]
      refine H5.out.mono ?_
      rintro e w5 ⟨v5, rfl, hown5, hb5⟩
      obtain ⟨a5, g5, c5, hv5, _, _, ss5⟩ := strs_of_own hown5
      subst hv5
      obtain ⟨N5, hN5⟩ : ∃ N5, N5 = (readsV ls (ps ++ qs) y).length := ⟨_, rfl⟩
      rw [← hN5]
      have HN5 : Hid (N5 = (readsV ls (ps ++ qs) y).length) := hN5
      have HS5 : Hid (Strs w5 a5 g5 0 (readsV ls (ps ++ qs) y)) := ss5
      have HS45 : Hid (Strs w5 a4 g4 0 (readsV ls (ps ++ qs) x)) := HS4.out.later hb5
      have HKY5 : Hid (w5.heap[w4.heap.size]? = some (.cells #[.slice a4 N4 c4] 30 (0, 0))) := (hb5.block _ (lt_of_block HKY.out)).trans HKY.out
      have HB6 : Hid (Below w.heap.size w w5) := HB5.out.trans (hb5.mono HB5.out.size)
      have h6 := flowsC ao bo xo yo b off b3 0 n N c cap3 xb xoff xn xc yb yoff yn yc ls (ps ++ qs) x y w5 (HC4.out.later hb5) (HX.out.later HB6.out) (HY.out.later HB6.out)
      rw [HE4.out] at h6
      obtain ⟨t4, ht4⟩ : ∃ t, t = flowsV ls (ps ++ qs) x y := ⟨_, rfl⟩
      rw [← ht4] at h6
      have HT4 : Hid (flowsV ls (ps ++ qs) x y = t4) := ht4.symm
      clear hown5 hb5 ss5 hN5 H5 HWY HKY HS4 HC4 HB5 ht4
      go_wp2_with fail
      refine h6.mono ?_
      rintro e w6 ⟨rfl, hb6⟩
      have HB7 : Hid (Below w.heap.size w w6) := HB6.out.trans (hb6.mono HB6.out.size)
      have HS6 : Hid (Strs w6 a5 g5 0 (readsV ls (ps ++ qs) y)) := HS5.out.later hb6
      have HS46 : Hid (Strs w6 a4 g4 0 (readsV ls (ps ++ qs) x)) := HS45.out.later hb6
      have HKY6 : Hid (w6.heap[w4.heap.size]? = some (.cells #[.slice a4 N4 c4] 30 (0, 0))) := (hb6.block _ (lt_of_block HKY5.out)).trans HKY5.out
      clear h6 hb6 HS5 HS45 HKY5 HB6
      by_cases h0 : checkF ls (ps ++ qs) = 0
      · obtain ⟨k1, k2, k3, k4, k5⟩ := few_all HE1.out HT1.out h0
        have q2 : e2 = 0 := by rw [← HE2.out]; exact k1
        have q3 : e3 = 0 := by rw [← HE3.out]; exact k2
        have q4 : e4 = 0 := by rw [← HE4.out]; exact k3
        have q5 : t4 = true := by rw [← HT4.out]; exact k4
        have l4 : N4 ≤ 1000 := by rw [HN4.out]; exact reads_few _ _ _ k1
        have l5 : N5 ≤ 1000 := by rw [HN5.out]; exact reads_few _ _ _ k2
        have hky := HKY6.out
        have hcf := containsFuncS 16 #[.pointer (some ⟨w4.heap.size, 0, none⟩)] (enters_of Try.func16 (by kernel_rfl) rfl) (fun _ => false) a5 g5 0 N5 c5 (readsV ls (ps ++ qs) y) w6 HN5.out l5 HS6.out (fun W s hs hW =>
          apart_any s w4.heap.size a4 g4 0 N4 c4 (readsV ls (ps ++ qs) x) W (by have e := (hW.block _ (lt_of_block hky)).trans hky; simp [World.cell?, e]) HN4.out l4 (HS46.out.later hW) (k5 s hs))
        have hany : ((readsV ls (ps ++ qs) y).any fun _ => false) = false := by simp
        rw [hany] at hcf
        have hmf : ∀ (fn : Fn) (first cap : Array Value) (w : World), (Instr.makeFunc fn first cap).run Try.prog w = .ok (.func fn first cap) w := fun _ _ _ _ => rfl
        subst q2 q3 q4 q5
        clear k1 k2 k3 k4 k5 hany hky l4 l5 h0
        go_wp2_with fail
        refine hcf.mono ?_
        rintro e w7 ⟨rfl, hb7⟩
        go_wp2
        go_ret
        exact ⟨rfl, HB7.out.trans (hb7.mono HB7.out.size)⟩
      · obtain ⟨k1, k2, k3⟩ := few_none (a := x) (b := y) h0
        have q2 : e2 = e4 := by rw [← HE2.out, ← HE4.out, k1, k3]
        have q3 : e3 = e4 := by rw [← HE3.out, ← HE4.out, k2, k3]
        have q4 : e4 ≠ 0 := by rw [← HE4.out, k3]; exact h0
        have bn : (e4 == 0) = false := by simp [q4]
        have bb : (e4 != 0) = true := by simp [q4]
        have hz := q2
        subst q2 q3
        clear k1 k2 k3 q4 h0 hz
        go_wp2
        go_ret
        exact ⟨by simp, HB7.out⟩
  · have bn : (e1 == 0) = false := by simp [g1]
    have bb : (e1 != 0) = true := by simp [g1]
    go_wp2_with fail
    refine (labelled_any _).mono ?_
    rintro e w6 ⟨rfl, hb6⟩
    go_wp2
    go_ret
    exact ⟨rfl, HB2.out.trans (hb6.mono HB2.out.size)⟩
end Go.Proofs.Ytjidnkecjkngnaa
