/- The law LabelJoin, walked. -/
import Derived.Test.YtjidnkecjkngnaaJoinC
import Derived.Test.YtjidnkecjkngnaaLabelled
namespace Go.Proofs.Ytjidnkecjkngnaa
open Go.RowKit

set_option maxRecDepth 100000 in
set_option maxHeartbeats 2000000 in
theorem join_flows (cb pb : Nat) (ao po lo mo : Option Addr) (b off b' off' n m c d lb loff ln lc mb moff mn mc : Nat) (ls : List ByteArray) (ps : List (ByteArray × ByteArray)) (x y : List Pol) (w : World) (hc : Chiefs w ao po b off b' off' n m c ls ps) (hx : LabAt w lo lb loff ln lc x) (hy : LabAt w mo mb moff mn mc y)
    (c0 : w.cell? ⟨cb, 0, none⟩ = some (.slice ao n c)) (c1 : w.cell? ⟨pb, 0, none⟩ = some (.slice po m d)) :
    Calls Try.prog 20 #[.slice lo ln lc, .slice mo mn mc, .pointer (some ⟨cb, 0, none⟩), .pointer (some ⟨pb, 0, none⟩)] w fun e w' => e = .returned (.bool (flowsV ls ps x y)) ∧ Below w.heap.size w w' := by
  have hk := flowsC ao po lo mo b off b' off' n m c d lb loff ln lc mb moff mn mc ls ps x y w hc hx hy
  clear hc hx hy
  obtain ⟨e0, he0⟩ : ∃ e0, e0 = bothL ls ps x y := ⟨_, rfl⟩
  obtain ⟨t, ht⟩ : ∃ t, t = flowsV ls ps x y := ⟨_, rfl⟩
  have hf : ¬ e0 = 0 → t = false := fun h => by rw [ht]; simp [flowsV, ← he0, h]
  rw [← he0, ← ht] at hk
  rw [← ht]
  clear he0 ht
  go_enter Try.func20, Try.ntmps20
  go_wp2_with fail
  refine hk.mono ?_
  rintro e w1 ⟨rfl, hb1⟩
  clear hk
  by_cases h0 : e0 = 0
  · subst h0
    clear hf
    go_wp2
    go_ret
    exact ⟨rfl, hb1⟩
  · have k := hf h0
    subst k
    have bn : (e0 == 0) = false := by simp [h0]
    clear hf
    go_wp2
    go_ret
    exact ⟨rfl, hb1⟩

theorem join_facts {ls : List ByteArray} {ps : List (ByteArray × ByteArray)} {x z u j y : List Pol} (h : bothL ls ps x z = 0) (hj : Lab.Norm blt plt ps (x ++ z) j) (hy : Lab.Norm blt plt ps x y) :
    flowsV ls ps x j = true ∧ flowsV ls ps z j = true ∧ flowsV ls ps x y = true ∧ flowsV ls ps y x = true ∧ (flowsV ls ps x u = true → flowsV ls ps z u = true → flowsV ls ps j u = true) := by
  obtain ⟨hx, hz⟩ := both_ok h
  obtain ⟨h0, _, o1, s1⟩ := checkL_ok hx
  obtain ⟨_, _, o2, s2⟩ := checkL_ok hz
  have hJ := (norm_facts h0 (fun p hp => (List.mem_append.1 hp).elim (o1 p) (o2 p)) (fun p hp => (List.mem_append.1 hp).elim (s1 p) (s2 p)) hj).2.2.1
  have hY := (norm_facts h0 o1 s1 hy).2.2.1
  obtain ⟨k1, k2⟩ := Lab.join_both blt_order plt_order hj
  refine ⟨(flowsV_iff (both_of hx hJ)).2 k1, (flowsV_iff (both_of hz hJ)).2 k2, (flowsV_iff (both_of hx hY)).2 (Lab.norm_to blt_order plt_order hy), (flowsV_iff (both_of hY hx)).2 (Lab.norm_from hy), fun g1 g2 => ?_⟩
  have hb : bothL ls ps x u = 0 := by
    have := g1
    simp [flowsV] at this
    exact this.1
  have hu := (both_ok hb).2
  exact (flowsV_iff (both_of hJ hu)).2 (Lab.join_least hj ((flowsV_iff hb).1 g1) ((flowsV_iff (both_of hz hu)).1 g2))

set_option maxRecDepth 100000 in
set_option maxHeartbeats 4000000 in
theorem law_join (ao po xo yo zo : Option Addr) (b off b' off' n m c d xb xoff xn xc yb yoff yn yc zb zoff zn zc : Nat) (ls : List ByteArray) (ps : List (ByteArray × ByteArray)) (x y z : List Pol) (w : World) (hc : Chiefs w ao po b off b' off' n m c ls ps)
    (hx : LabAt w xo xb xoff xn xc x) (hy : LabAt w yo yb yoff yn yc y) (hz : LabAt w zo zb zoff zn zc z) :
    Calls Try.prog 5 #[.slice ao n c, .slice po m d, .slice xo xn xc, .slice yo yn yc, .slice zo zn zc] w fun e w' => e = .returned (.bool true) ∧ Below w.heap.size w w' := by
  obtain ⟨wz, hwz⟩ : ∃ wz, wz = (w.alloc (.cells #[.slice ao n c] 30)).alloc (.cells #[.slice po m d] 31) := ⟨_, rfl⟩
  have hbz : Below w.heap.size w wz := by rw [hwz]; exact ((Below.refl _ _).alloc (Nat.le_refl _) _).alloc (by simp) _
  have k0 : wz.heap[w.heap.size]? = some (.cells #[.slice ao n c] 30 (0, 0)) := by rw [hwz]; exact heap_past_alloc (heap_at_alloc _ _ _ rfl)
  have k1 : wz.heap[w.heap.size + 1]? = some (.cells #[.slice po m d] 31 (0, 0)) := by rw [hwz]; exact heap_at_alloc _ _ _ (by simp)
  have HC : Hid (Chiefs wz ao po b off b' off' n m c ls ps) := hc.later hbz
  have HX : Hid (LabAt wz xo xb xoff xn xc x) := hx.later hbz
  have HY : Hid (LabAt wz yo yb yoff yn yc y) := hy.later hbz
  have HZ : Hid (LabAt wz zo zb zoff zn zc z) := hz.later hbz
  have h1 := joinC ao po xo yo b off b' off' n m c d xb xoff xn xc yb yoff yn yc ls ps x y wz HC.out HX.out HY.out
  have HC0 : Hid (∀ W, Below wz.heap.size wz W → W.cell? ⟨w.heap.size, 0, none⟩ = some (.slice ao n c) ∧ W.cell? ⟨w.heap.size + 1, 0, none⟩ = some (.slice po m d)) := by
    intro W hW
    have e0 := (hW.block _ (lt_of_block k0)).trans k0
    have e1 := (hW.block _ (lt_of_block k1)).trans k1
    exact ⟨by simp [World.cell?, e0], by simp [World.cell?, e1]⟩
  have HF : Hid (∀ W (lo mo : Option Addr) (lb loff ln lc mb moff mn mc : Nat) (p q : List Pol), Below wz.heap.size wz W → LabAt W lo lb loff ln lc p → LabAt W mo mb moff mn mc q → Calls Try.prog 20 #[.slice lo ln lc, .slice mo mn mc, .pointer (some ⟨w.heap.size, 0, none⟩), .pointer (some ⟨w.heap.size + 1, 0, none⟩)] W fun e w' => e = .returned (.bool (flowsV ls ps p q)) ∧ Below W.heap.size W w') := fun W lo mo lb loff ln lc mb moff mn mc p q hW hp hq =>
    join_flows w.heap.size (w.heap.size + 1) ao po lo mo b off b' off' n m c d lb loff ln lc mb moff mn mc ls ps p q W (HC.out.later hW) hp hq (HC0.out W hW).1 (HC0.out W hW).2
  have HBZ : Hid (Below w.heap.size w wz) := hbz
  have HWZ : Hid (wz = (w.alloc (.cells #[.slice ao n c] 30)).alloc (.cells #[.slice po m d] 31)) := hwz
  have hmf : ∀ (fn : Fn) (first cap : Array Value) (w : World), (Instr.makeFunc fn first cap).run Try.prog w = .ok (.func fn first cap) w := fun _ _ _ _ => rfl
  have eg : ∀ args w, (callFunc 20 args).run Try.prog w = .ok (.enter 20 args) w := enters_of Try.func20 (by kernel_rfl) rfl
  clear hc hx hy hz hwz hbz k0 k1
  obtain ⟨e1, he1⟩ : ∃ e1, e1 = bothL ls ps x y := ⟨_, rfl⟩
  rw [← he1] at h1
  have HE1 : Hid (bothL ls ps x y = e1) := he1.symm
  clear he1
  go_enter Try.func5, Try.ntmps5
  go_wp2_with fail
  rw [← HWZ.out]
  refine h1.mono ?_
  clear h1
  rintro e w1 ⟨v1, j, rfl, hn1, hl1, hb1⟩
  have HB1 : Hid (Below wz.heap.size wz w1) := hb1
  have HN1 : Hid (e1 = 0 → Lab.Norm blt plt ps (x ++ y) j) := hn1
  have HL1 : Hid (LabNew w1 wz.heap.size v1 j) := hl1
  obtain ⟨c0, c1⟩ := HC0.out w1 hb1
  have h2 := normC ao po xo b off b' off' n m c d xb xoff xn xc ls ps x w1 (HC.out.later hb1) (HX.out.later hb1)
  obtain ⟨e2, he2⟩ : ∃ e2, e2 = checkL ls ps x := ⟨_, rfl⟩
  rw [← he2] at h2
  have HE2 : Hid (checkL ls ps x = e2) := he2.symm
  clear he2 hb1 hn1 hl1
  go_wp2_with fail
  refine h2.mono ?_
  clear h2
  rintro e w2 ⟨v2, k, rfl, hn2, hl2, hb2⟩
  have HB2 : Hid (Below wz.heap.size wz w2) := HB1.out.trans (hb2.mono HB1.out.size)
  have HB12 : Hid (Below w1.heap.size w1 w2) := hb2
  have HN2 : Hid (e2 = 0 → Lab.Norm blt plt ps x k) := hn2
  have HL2 : Hid (LabNew w2 w1.heap.size v2 k) := hl2
  clear hb2 hn2 hl2 c0 c1
  go_wp2_with fail
  refine (labelled_any _).mono ?_
  rintro e w3 ⟨rfl, hb3⟩
  have HB3 : Hid (Below wz.heap.size wz w3) := HB2.out.trans (hb3.mono HB2.out.size)
  have HB23 : Hid (Below w2.heap.size w2 w3) := hb3
  clear hb3
  by_cases g1 : e1 = 0
  · subst g1
    have g2 : e2 = 0 := by rw [← HE2.out]; exact (both_ok HE1.out).1
    subst g2
    have hj := HN1.out rfl
    have hk := HN2.out rfl
    obtain ⟨h0, _, o1, s1⟩ := checkL_ok (both_ok HE1.out).1
    obtain ⟨_, _, o2, s2⟩ := checkL_ok (both_ok HE1.out).2
    have sj := (norm_facts h0 (fun p hp => (List.mem_append.1 hp).elim (o1 p) (o2 p)) (fun p hp => (List.mem_append.1 hp).elim (s1 p) (s2 p)) hj).2.2.2
    have sk := (norm_facts h0 o1 s1 hk).2.2.2
    obtain ⟨jo, jb, joff, jc, hv1, hj1⟩ := HL1.out.at' sj
    obtain ⟨ko, kb, koff, kc, hv2, hk1⟩ := HL2.out.at' sk
    obtain ⟨jn, hjn⟩ : ∃ jn, jn = j.length := ⟨_, rfl⟩
    obtain ⟨kn, hkn⟩ : ∃ kn, kn = k.length := ⟨_, rfl⟩
    rw [← hjn] at hv1 hj1
    rw [← hkn] at hv2 hk1
    subst hv1 hv2
    have HJ : Hid (LabAt w3 jo jb joff jn jc j) := (hj1.later HB12.out).later HB23.out
    have HK : Hid (LabAt w3 ko kb koff kn kc k) := hk1.later HB23.out
    have HX3 : Hid (LabAt w3 xo xb xoff xn xc x) := HX.out.later HB3.out
    have HY3 : Hid (LabAt w3 yo yb yoff yn yc y) := HY.out.later HB3.out
    have HZ3 : Hid (LabAt w3 zo zb zoff zn zc z) := HZ.out.later HB3.out
    obtain ⟨f1, f2, f3, f4, f5⟩ := join_facts (u := z) HE1.out hj hk
    have HFA : Hid (flowsV ls ps x j = true ∧ flowsV ls ps y j = true ∧ flowsV ls ps x k = true ∧ flowsV ls ps k x = true) := ⟨f1, f2, f3, f4⟩
    have HFB : Hid (flowsV ls ps x z = true → flowsV ls ps y z = true → flowsV ls ps j z = true) := f5
    clear hj hk h0 o1 o2 s1 s2 sj sk hj1 hk1 hjn hkn f1 f2 f3 f4 f5 HL1 HL2 HN1 HN2 HE1 HE2 HX HY HZ HC HC0 HB12 HB23 HB1 HB2
    have q1 := HF.out w3 xo jo xb xoff xn xc jb joff jn jc x j HB3.out HX3.out HJ.out
    rw [HFA.out.1] at q1
    go_wp2_with fail
    refine q1.mono ?_
    clear q1
    rintro e w4 ⟨rfl, hb4⟩
    have HB4 : Hid (Below w3.heap.size w3 w4) := hb4
    have q2 := HF.out w4 yo jo yb yoff yn yc jb joff jn jc y j (HB3.out.trans (hb4.mono HB3.out.size)) (HY3.out.later hb4) (HJ.out.later hb4)
    rw [HFA.out.2.1] at q2
    clear hb4
    go_wp2_with fail
    refine q2.mono ?_
    clear q2
    rintro e w5 ⟨rfl, hb5⟩
    have HB5 : Hid (Below w3.heap.size w3 w5) := HB4.out.trans (hb5.mono HB4.out.size)
    have q3 := HF.out w5 xo ko xb xoff xn xc kb koff kn kc x k (HB3.out.trans (HB5.out.mono HB3.out.size)) (HX3.out.later HB5.out) (HK.out.later HB5.out)
    rw [HFA.out.2.2.1] at q3
    clear hb5
    go_wp2_with fail
    refine q3.mono ?_
    clear q3
    rintro e w6 ⟨rfl, hb6⟩
    have HB6 : Hid (Below w3.heap.size w3 w6) := HB5.out.trans (hb6.mono HB5.out.size)
    have q4 := HF.out w6 ko xo kb koff kn kc xb xoff xn xc k x (HB3.out.trans (HB6.out.mono HB3.out.size)) (HK.out.later HB6.out) (HX3.out.later HB6.out)
    rw [HFA.out.2.2.2] at q4
    clear hb6
    go_wp2_with fail
    refine q4.mono ?_
    clear q4
    rintro e w7 ⟨rfl, hb7⟩
    have HB7 : Hid (Below w3.heap.size w3 w7) := HB6.out.trans (hb7.mono HB6.out.size)
    have q5 := HF.out w7 xo zo xb xoff xn xc zb zoff zn zc x z (HB3.out.trans (HB7.out.mono HB3.out.size)) (HX3.out.later HB7.out) (HZ3.out.later HB7.out)
    obtain ⟨t1, ht1⟩ : ∃ t, t = flowsV ls ps x z := ⟨_, rfl⟩
    obtain ⟨t2, ht2⟩ : ∃ t, t = flowsV ls ps y z := ⟨_, rfl⟩
    obtain ⟨t3, ht3⟩ : ∃ t, t = flowsV ls ps j z := ⟨_, rfl⟩
    rw [← ht1] at q5
    have HT : Hid (t1 = true → t2 = true → t3 = true) := by rw [ht1, ht2, ht3]; exact HFB.out
    have HT2 : Hid (flowsV ls ps y z = t2) := ht2.symm
    have HT3 : Hid (flowsV ls ps j z = t3) := ht3.symm
    clear hb7 ht1 ht2 ht3 HFA HFB
    go_wp2_with fail
    refine q5.mono ?_
    clear q5
    rintro e w8 ⟨rfl, hb8⟩
    have HB8 : Hid (Below w3.heap.size w3 w8) := HB7.out.trans (hb8.mono HB7.out.size)
    have HW8 : Hid (Below wz.heap.size wz w8) := HB3.out.trans (HB8.out.mono HB3.out.size)
    clear hb8
    cases t1 with
    | false =>
      go_wp2
      go_ret
      exact ⟨rfl, HBZ.out.trans (HW8.out.mono HBZ.out.size)⟩
    | true =>
      have q6 := HF.out w8 yo zo yb yoff yn yc zb zoff zn zc y z HW8.out (HY3.out.later HB8.out) (HZ3.out.later HB8.out)
      rw [HT2.out] at q6
      go_wp2_with fail
      refine q6.mono ?_
      clear q6
      rintro e w9 ⟨rfl, hb9⟩
      have HB9 : Hid (Below w3.heap.size w3 w9) := HB8.out.trans (hb9.mono HB8.out.size)
      have HW9 : Hid (Below wz.heap.size wz w9) := HB3.out.trans (HB9.out.mono HB3.out.size)
      clear hb9
      cases t2 with
      | false =>
        go_wp2
        go_ret
        exact ⟨rfl, HBZ.out.trans (HW9.out.mono HBZ.out.size)⟩
      | true =>
        have q7 := HF.out w9 jo zo jb joff jn jc zb zoff zn zc j z HW9.out (HJ.out.later HB9.out) (HZ3.out.later HB9.out)
        have h9 : t3 = true := by simpa using HT.out
        rw [HT3.out, h9] at q7
        go_wp2_with fail
        refine q7.mono ?_
        clear q7
        rintro e w10 ⟨rfl, hb10⟩
        have HW10 : Hid (Below wz.heap.size wz w10) := HW9.out.trans (hb10.mono HW9.out.size)
        clear hb10
        go_wp2
        go_ret
        exact ⟨rfl, HBZ.out.trans (HW10.out.mono HBZ.out.size)⟩
  · have bn : (e1 == 0) = false := by simp [g1]
    have bb : (e1 != 0) = true := by simp [g1]
    go_wp2_with fail
    refine (labelled_any _).mono ?_
    rintro e w4 ⟨rfl, hb4⟩
    have HW : Hid (Below wz.heap.size wz w4) := HB3.out.trans (hb4.mono HB3.out.size)
    clear hb4
    go_wp2
    go_ret
    exact ⟨rfl, HBZ.out.trans (HW.out.mono HBZ.out.size)⟩
end Go.Proofs.Ytjidnkecjkngnaa
