/- The law ChiefMore, walked. -/
import Derived.Test.YtilapnfdijjobahChiefed
import Derived.Test.YtilapnfdijjobahConcatP
import Derived.Test.YtilapnfdijjobahFuncP
namespace Go.Proofs.Ytilapnfdijjobah
open Go.RowKit

theorem forE_zero {ls : List ByteArray} {ps : List (ByteArray × ByteArray)} {y : ByteArray} (h : forE ls ps y = 0) : checkF ls ps = 0 ∧ y ∈ ls ∧ forV ls ps y = Act.forF ls ps y := by
  have h0 : checkF ls ps = 0 := by
    by_cases h0 : checkF ls ps = 0
    · exact h0
    · simp [forE, h0] at h
  have hy : y ∈ ls := by
    cases hb : Act.has ls y with
    | true => exact Act.has_iff.1 hb
    | false => simp [forE, h0, hb] at h
  exact ⟨h0, hy, by simp [forV, h]⟩
theorem more_all {ls : List ByteArray} {ps qs : List (ByteArray × ByteArray)} {y : ByteArray} (h : forE ls ps y = 0) (h' : forE ls (ps ++ qs) y = 0) : (∀ s ∈ forV ls ps y, s ∈ forV ls (ps ++ qs) y) ∧ y ∈ forV ls ps y := by
  obtain ⟨c1, hy, e1⟩ := forE_zero h
  obtain ⟨c2, _, e2⟩ := forE_zero h'
  obtain ⟨_, _, r1, _⟩ := right_of c1
  obtain ⟨_, _, r2, _⟩ := right_of c2
  rw [e1, e2]
  refine ⟨fun s hs => ?_, (Act.forF_mem r1 hy).2 ⟨hy, .refl _⟩⟩
  obtain ⟨g1, g2⟩ := (Act.forF_mem r1 hy).1 hs
  exact (Act.forF_mem r2 hy).2 ⟨g1, g2.mono fun p hp => List.mem_append_left _ hp⟩
theorem forV_len {ls : List ByteArray} (ps : List (ByteArray × ByteArray)) (y : ByteArray) (h : forE ls ps y = 0) : (forV ls ps y).length ≤ 1000 := by
  obtain ⟨c1, _, e1⟩ := forE_zero h
  obtain ⟨h6, _⟩ := right_of c1
  rw [e1]
  have := List.length_filter_le (fun a => Act.acts ls ps a y) ls
  unfold Act.forF; omega

set_option maxHeartbeats 2000000 in
theorem law_more (ao po qo : Option Addr) (b off b' off' b'' off'' n m r c d d' : Nat) (y : ByteArray) (ls : List ByteArray) (ps qs : List (ByteArray × ByteArray)) (w : World) (hc : Chiefs w ao po b off b' off' n m c ls ps) (hr : r = qs.length) (hq : Prs w qo b'' off'' qs) (hb : (m + r) * 32 ≤ 281474976710656) :
    Calls Try.prog 3 #[.slice ao n c, .slice po m d, .slice qo r d', .string y] w fun e w' => e = .returned (.bool true) ∧ Below w.heap.size w w' := by
  have HC : Hid (Chiefs w ao po b off b' off' n m c ls ps) := hc
  have HR : Hid (r = qs.length) := hr
  have HQ : Hid (Prs w qo b'' off'' qs) := hq
  have HB : Hid ((m + r) * 32 ≤ 281474976710656) := hb
  clear hc hr hq hb
  go_enter Try.func3, Try.ntmps3
  go_wp2_with fail
  refine (for_any _ _ _ _ _ _ _ _ _ _ ls ps y _ HC.out).mono ?_
  rintro e w1 ⟨v1, rfl, hown1, hb1⟩
  obtain ⟨e1, he1⟩ : ∃ e1, e1 = forE ls ps y := ⟨_, rfl⟩
  rw [← he1]
  have HE1 : Hid (e1 = forE ls ps y) := he1
  have HO1 : Hid (w1.ownsRow w.heap.size 9 1 v1 (forV ls ps y).length (strC (forV ls ps y))) := hown1
  have HB1 : Hid (Below w.heap.size w w1) := hb1
  have HC1 : Hid (Chiefs w1 ao po b off b' off' n m c ls ps) := HC.out.later hb1
  have HQ1 : Hid (Prs w1 qo b'' off'' qs) := HQ.out.later hb1
  clear he1 hown1 hb1 HC HQ
  have HW2 : Hid (Below w1.heap.size w1 (w1.alloc (.cells #[.slice po m d, .slice qo r d'] 23))) := (Below.refl _ _).alloc (Nat.le_refl _) _
  have HCC : Hid (Calls Try.prog 5 #[.slice (some ⟨w1.heap.size, 0, none⟩) 2 2] (w1.alloc (.cells #[.slice po m d, .slice qo r d'] 23)) fun e w' => ∃ v, e = .returned v ∧ w'.ownsRow (w1.alloc (.cells #[.slice po m d, .slice qo r d'] 23)).heap.size 28 2 v (ps ++ qs).length (prC (ps ++ qs)) ∧ Below (w1.alloc (.cells #[.slice po m d, .slice qo r d'] 23)).heap.size (w1.alloc (.cells #[.slice po m d, .slice qo r d'] 23)) w') :=
    concatP w1.heap.size po qo b' off' b'' off'' m r d d' ps qs _ HC1.out.lm HR.out HB.out (World.cell?_alloc_at _ _ _ _ rfl) (World.cell?_alloc_at _ _ _ _ rfl) (by simp) (HC1.out.prs.later HW2.out) (HQ1.out.later HW2.out)
  go_wp2_with fail
  refine HCC.out.mono ?_
  rintro e w3 ⟨v3, rfl, hown3, hb3⟩
  have HB3 : Hid (Below w1.heap.size w1 w3) := HW2.out.trans (hb3.mono (by simp))
  obtain ⟨bo, b3, cap3, hv3, hc3, hm3, hp3⟩ := prs_of_own hown3
  subst hv3
  obtain ⟨N, hN⟩ : ∃ N, N = (ps ++ qs).length := ⟨_, rfl⟩
  rw [← hN] at hc3 ⊢
  have HC3 : Hid (Chiefs w3 ao bo b off b3 0 n N c ls (ps ++ qs)) := by
    have h := HC1.out.later HB3.out
    exact ⟨h.ln, hN, h.mn, Nat.le_trans hc3 hm3, h.cap, h.strs, hp3, h.sz⟩
  have HO3 : Hid (w3.ownsRow w.heap.size 9 1 v1 (forV ls ps y).length (strC (forV ls ps y))) := own_below HO1.out HB3.out
  clear hown3 hb3 hc3 hm3 hp3 hN HCC HW2 HO1 HC1
  go_wp2_with fail
  refine (for_any _ _ _ _ _ _ _ _ _ _ ls (ps ++ qs) y _ HC3.out).mono ?_
  rintro e w4 ⟨v4, rfl, hown4, hb4⟩
  obtain ⟨e2, he2⟩ : ∃ e2, e2 = forE ls (ps ++ qs) y := ⟨_, rfl⟩
  rw [← he2]
  have HE2 : Hid (e2 = forE ls (ps ++ qs) y) := he2
  obtain ⟨a4, g4, c4, hv4, _, _, ss4⟩ := strs_of_own hown4
  subst hv4
  have HS4 : Hid (Strs w4 a4 g4 0 (forV ls (ps ++ qs) y)) := ss4
  obtain ⟨N4, hN4⟩ : ∃ N4, N4 = (forV ls (ps ++ qs) y).length := ⟨_, rfl⟩
  rw [← hN4]
  have HN4 : Hid (N4 = (forV ls (ps ++ qs) y).length) := hN4
  have HO5 : Hid (w4.ownsRow w.heap.size 9 1 v1 (forV ls ps y).length (strC (forV ls ps y))) := own_below HO3.out hb4
  have HB4 : Hid (Below w.heap.size w w4) := HB1.out.trans ((HB3.out.trans (hb4.mono HB3.out.size)).mono HB1.out.size)
  clear he2 hown4 hb4 HO3 HC3 HB3 HB1 ss4 hN4
  have HB5 : Hid (Below w4.heap.size w4 (w4.alloc (.cells #[.slice a4 N4 c4] 22))) := (Below.refl _ _).alloc (Nat.le_refl _) _
  have HY : Hid ((w4.alloc (.cells #[.slice a4 N4 c4] 22)).heap[w4.heap.size]? = some (.cells #[.slice a4 N4 c4] 22 (0, 0))) := heap_at_alloc _ _ _ rfl
  go_wp2_with fail
  refine (chiefed_any _).mono ?_
  rintro e w6 ⟨rfl, hb6⟩
  have HB6 : Hid (Below w4.heap.size w4 w6) := HB5.out.trans (hb6.mono (by simp))
  have hY6 : w6.heap[w4.heap.size]? = some (.cells #[.slice a4 N4 c4] 22 (0, 0)) := (hb6.block _ (by simp)).trans HY.out
  have yc : w6.cell? ⟨w4.heap.size, 0, none⟩ = some (.slice a4 N4 c4) := by simp [World.cell?, hY6]
  have HBE : Hid (Below w.heap.size w w6) := HB4.out.trans (HB6.out.mono HB4.out.size)
  clear hb6 hY6 HY HB5
  by_cases h1 : e1 = 0
  · subst h1
    by_cases h2 : e2 = 0
    · subst h2
      obtain ⟨ha, hy⟩ := more_all HE1.out.symm HE2.out.symm
      have l1 := forV_len ps y HE1.out.symm
      have l2 := forV_len (ps ++ qs) y HE2.out.symm
      obtain ⟨a1, g1, c1, hv1, _, _, ss1⟩ := strs_of_own (own_below HO5.out HB6.out)
      have ss4 := HS4.out.later HB6.out
      subst hv1
      have HK : Hid (Calls Try.prog 7 #[.slice a1 (forV ls ps y).length c1, .func (.func 8) #[] #[.pointer (some ⟨w4.heap.size, 0, none⟩)]] w6 fun e w' => e = .returned (.bool false) ∧ w' = w6) := containsFunc_none _ _ _ _ _ _ _ _ _ _ _ _ _ _ rfl l1 ss1 yc HN4.out (by rw [HN4.out]; exact l2) ss4 ha
      have HKC : Hid (Calls Try.prog 9 #[.slice a1 (forV ls ps y).length c1, .string y] w6 fun e w' => e = .returned (.bool true) ∧ w' = w6) := by
        have h := contains_any a1 g1 0 (forV ls ps y).length c1 (forV ls ps y) y w6 rfl (by unfold maxLen; omega) ss1
        rw [Act.has_iff.2 hy] at h
        exact h
      have hmf : ∀ (fn : Fn) (first cap : Array Value) (w : World), (Instr.makeFunc fn first cap).run Try.prog w = .ok (.func fn first cap) w := fun _ _ _ _ => rfl
      obtain ⟨N1, hN1⟩ : ∃ N1, N1 = (forV ls ps y).length := ⟨_, rfl⟩
      rw [← hN1] at HK HKC ⊢
      clear ss1 ss4 ha hy l1 l2 hN1 HO5
      go_wp2_with fail
      refine HK.out.mono ?_
      rintro e w7 ⟨rfl, hw⟩
      have hw' := hw.symm
      subst hw'
      go_wp2_with fail
      refine HKC.out.mono ?_
      rintro e w8 ⟨rfl, hw⟩
      have hw' := hw.symm
      subst hw'
      go_wp2
      go_ret
      exact ⟨rfl, HBE.out⟩
    · have be : (e2 == 0) = false := by simp [h2]
      have bn : (e2 != 0) = true := by simp [h2]
      go_wp2_with fail
      refine (chiefed_any _).mono ?_
      rintro e w7 ⟨rfl, hb7⟩
      go_wp2
      go_ret
      exact ⟨rfl, HBE.out.trans (hb7.mono HBE.out.size)⟩
  · have be : (e1 == 0) = false := by simp [h1]
    have bn : (e1 != 0) = true := by simp [h1]
    go_wp2_with fail
    refine (chiefed_any _).mono ?_
    rintro e w7 ⟨rfl, hb7⟩
    go_wp2
    go_ret
    exact ⟨rfl, HBE.out.trans (hb7.mono HBE.out.size)⟩
end Go.Proofs.Ytilapnfdijjobah
