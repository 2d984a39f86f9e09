/- The law LabelChain, walked. -/
import Derived.Test.YtjidnkecjkngnaaLabelled
namespace Go.Proofs.Ytjidnkecjkngnaa
open Go.RowKit

theorem chain_own {ls : List ByteArray} {ps : List (ByteArray × ByteArray)} {a : List Pol} (h : bothL ls ps a a = 0) : flowsV ls ps a a = true := (flowsV_iff h).2 (Lab.mayGo_refl ps a)
theorem chain_on {ls : List ByteArray} {ps : List (ByteArray × ByteArray)} {a b c : List Pol} (h : bothL ls ps a b = 0) (g : bothL ls ps b c = 0) (k : bothL ls ps a c = 0) (h1 : flowsV ls ps a b = true) (g1 : flowsV ls ps b c = true) : flowsV ls ps a c = true :=
  (flowsV_iff k).2 (Lab.mayGo_trans ((flowsV_iff h).1 h1) ((flowsV_iff g).1 g1))

set_option maxRecDepth 100000 in
set_option maxHeartbeats 2000000 in
theorem law_chain (ao po xo yo zo : Option Addr) (b off b' off' n m c d xb xoff xn xc yb yoff yn yc zb zoff zn zc : Nat) (ls : List ByteArray) (ps : List (ByteArray × ByteArray)) (x y z : List Pol) (w : World) (hc : Chiefs w ao po b off b' off' n m c ls ps)
    (hx : LabAt w xo xb xoff xn xc x) (hy : LabAt w yo yb yoff yn yc y) (hz : LabAt w zo zb zoff zn zc z) :
    Calls Try.prog 6 #[.slice ao n c, .slice po m d, .slice xo xn xc, .slice yo yn yc, .slice zo zn zc] w fun e w' => e = .returned (.bool true) ∧ Below w.heap.size w w' := by
  have HC : Hid (Chiefs w ao po b off b' off' n m c ls ps) := hc
  have HX : Hid (LabAt w xo xb xoff xn xc x) := hx
  have HY : Hid (LabAt w yo yb yoff yn yc y) := hy
  have HZ : Hid (LabAt w zo zb zoff zn zc z) := hz
  have h1 := flowsC ao po xo yo b off b' off' n m c d xb xoff xn xc yb yoff yn yc ls ps x y w hc hx hy
  clear hc hx hy hz
  obtain ⟨e1, he1⟩ : ∃ e1, e1 = bothL ls ps x y := ⟨_, rfl⟩
  obtain ⟨e2, he2⟩ : ∃ e2, e2 = bothL ls ps y z := ⟨_, rfl⟩
  obtain ⟨e3, he3⟩ : ∃ e3, e3 = bothL ls ps x z := ⟨_, rfl⟩
  obtain ⟨e4, he4⟩ : ∃ e4, e4 = bothL ls ps x x := ⟨_, rfl⟩
  obtain ⟨t1, ht1⟩ : ∃ t, t = flowsV ls ps x y := ⟨_, rfl⟩
  obtain ⟨t2, ht2⟩ : ∃ t, t = flowsV ls ps y z := ⟨_, rfl⟩
  obtain ⟨t3, ht3⟩ : ∃ t, t = flowsV ls ps x z := ⟨_, rfl⟩
  obtain ⟨t4, ht4⟩ : ∃ t, t = flowsV ls ps x x := ⟨_, rfl⟩
  have HOWN : Hid (e4 = 0 → t4 = true) := by intro h; rw [ht4]; exact chain_own (by rw [← he4]; exact h)
  have HON : Hid (e1 = 0 → e2 = 0 → e3 = 0 → t1 = true → t2 = true → t3 = true) := by
    intro g1 g2 g3 k1 k2
    rw [ht3]
    exact chain_on (by rw [← he1]; exact g1) (by rw [← he2]; exact g2) (by rw [← he3]; exact g3) (by rw [← ht1]; exact k1) (by rw [← ht2]; exact k2)
  rw [← he1, ← ht1] at h1
  have H2 : Hid (bothL ls ps y z = e2 ∧ flowsV ls ps y z = t2) := ⟨he2.symm, ht2.symm⟩
  have H3 : Hid (bothL ls ps x z = e3 ∧ flowsV ls ps x z = t3) := ⟨he3.symm, ht3.symm⟩
  have H4 : Hid (bothL ls ps x x = e4 ∧ flowsV ls ps x x = t4) := ⟨he4.symm, ht4.symm⟩
  clear he1 he2 he3 he4 ht1 ht2 ht3 ht4
  go_enter Try.func6, Try.ntmps6
  go_wp2_with fail
  refine h1.mono ?_
  rintro e w1 ⟨rfl, hb1⟩
  have HB1 : Hid (Below w.heap.size w w1) := hb1
  have h2 := flowsC ao po yo zo b off b' off' n m c d yb yoff yn yc zb zoff zn zc ls ps y z w1 (HC.out.later hb1) (HY.out.later hb1) (HZ.out.later hb1)
  rw [H2.out.1, H2.out.2] at h2
  clear h1 hb1
  go_wp2_with fail
  refine h2.mono ?_
  rintro e w2 ⟨rfl, hb2⟩
  have HB2 : Hid (Below w.heap.size w w2) := HB1.out.trans (hb2.mono HB1.out.size)
  have h3 := flowsC ao po xo zo b off b' off' n m c d xb xoff xn xc zb zoff zn zc ls ps x z w2 (HC.out.later HB2.out) (HX.out.later HB2.out) (HZ.out.later HB2.out)
  rw [H3.out.1, H3.out.2] at h3
  clear h2 hb2 HB1
  go_wp2_with fail
  refine h3.mono ?_
  rintro e w3 ⟨rfl, hb3⟩
  have HB3 : Hid (Below w.heap.size w w3) := HB2.out.trans (hb3.mono HB2.out.size)
  have h4 := flowsC ao po xo xo b off b' off' n m c d xb xoff xn xc xb xoff xn xc ls ps x x w3 (HC.out.later HB3.out) (HX.out.later HB3.out) (HX.out.later HB3.out)
  rw [H4.out.1, H4.out.2] at h4
  clear h3 hb3 HB2
  go_wp2_with fail
  refine h4.mono ?_
  rintro e w4 ⟨rfl, hb4⟩
  have HB4 : Hid (Below w.heap.size w w4) := HB3.out.trans (hb4.mono HB3.out.size)
  clear h4 hb4 HB3 H2 H3 H4
  go_wp2_with fail
  refine (labelled_any _).mono ?_
  rintro e w5 ⟨rfl, hb5⟩
  have HB5 : Hid (Below w.heap.size w w5) := HB4.out.trans (hb5.mono HB4.out.size)
  clear hb5 HB4
  by_cases g1 : e1 = 0
  · subst g1
    by_cases g2 : e2 = 0
    · subst g2
      by_cases g3 : e3 = 0
      · subst g3
        by_cases g4 : e4 = 0
        · subst g4
          have k4 := HOWN.out rfl
          have k3 := HON.out rfl rfl rfl
          subst k4
          clear HOWN HON
          cases t1 <;> cases t2 <;> cases t3
          all_goals first
            | (exfalso; exact absurd (k3 rfl rfl) (by decide))
            | (clear k3; go_wp2; go_ret; exact ⟨rfl, HB5.out⟩)
        · have bn : (e4 == 0) = false := by simp [g4]
          have bb : (e4 != 0) = true := by simp [g4]
          go_wp2_with fail
          refine (labelled_any _).mono ?_
          rintro e w6 ⟨rfl, hb6⟩
          go_wp2
          go_ret
          exact ⟨rfl, HB5.out.trans (hb6.mono HB5.out.size)⟩
      · have bn : (e3 == 0) = false := by simp [g3]
        have bb : (e3 != 0) = true := by simp [g3]
        go_wp2_with fail
        refine (labelled_any _).mono ?_
        rintro e w6 ⟨rfl, hb6⟩
        go_wp2
        go_ret
        exact ⟨rfl, HB5.out.trans (hb6.mono HB5.out.size)⟩
    · have bn : (e2 == 0) = false := by simp [g2]
      have bb : (e2 != 0) = true := by simp [g2]
      go_wp2_with fail
      refine (labelled_any _).mono ?_
      rintro e w6 ⟨rfl, hb6⟩
      go_wp2
      go_ret
      exact ⟨rfl, HB5.out.trans (hb6.mono HB5.out.size)⟩
  · have bn : (e1 == 0) = false := by simp [g1]
    have bb : (e1 != 0) = true := by simp [g1]
    go_wp2_with fail
    refine (labelled_any _).mono ?_
    rintro e w6 ⟨rfl, hb6⟩
    go_wp2
    go_ret
    exact ⟨rfl, HB5.out.trans (hb6.mono HB5.out.size)⟩
end Go.Proofs.Ytjidnkecjkngnaa
