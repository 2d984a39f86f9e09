/- The law LabelLess, walked. -/
import Derived.Test.YtjidnkecjkngnaaSameL
import Derived.Test.YtjidnkecjkngnaaLabelled
namespace Go.Proofs.Ytjidnkecjkngnaa
open Go.RowKit

theorem left_mem {ls : List ByteArray} {ps : List (ByteArray × ByteArray)} {x : List Pol} {bs : List ByteArray} (hr : Act.Right ls ps) (hx : Lab.OfL ls x) (hb : ∀ s ∈ bs, s ∈ ls) : ∀ p ∈ leftF ls ps x bs, p ∈ x ∧ ¬ Lab.Left ps bs p := by
  intro p hp
  obtain ⟨h1, h2⟩ := List.mem_filter.1 hp
  refine ⟨h1, ?_⟩
  rintro ⟨s, hs, hw⟩
  have h3 : goesB ls ps bs p = true := List.any_eq_true.2 ⟨s, hs, (Act.acts_iff hr (hb s hs) (hx p h1).1).2 hw⟩
  rw [h3] at h2
  simp at h2
theorem left_self {ls : List ByteArray} {ps : List (ByteArray × ByteArray)} {x : List Pol} {bs : List ByteArray} (hr : Act.Right ls ps) (hx : Lab.OfL ls x) (hb : ∀ s ∈ bs, s ∈ ls) (h : ∀ p ∈ x, ¬ Lab.Left ps bs p) : leftF ls ps x bs = x := by
  unfold leftF
  rw [List.filter_eq_self]
  intro p hp
  cases hg : goesB ls ps bs p with
  | false => rfl
  | true =>
    obtain ⟨s, hs, hw⟩ := List.any_eq_true.1 hg
    exact absurd ⟨s, hs, (Act.acts_iff hr (hb s hs) (hx p hp).1).1 hw⟩ (h p hp)
theorem less_ok {ls : List ByteArray} {ps : List (ByteArray × ByteArray)} {x : List Pol} {bs : List ByteArray} (h : lessE ls ps x bs = 0) : checkL ls ps x = 0 ∧ amongF ls bs = 0 := by
  unfold lessE at h
  split at h
  · exact ⟨by assumption, h⟩
  · exact absurd h (by assumption)
theorem less_facts {ls : List ByteArray} {ps : List (ByteArray × ByteArray)} {x y : List Pol} {bs : List ByteArray} (h : lessE ls ps x bs = 0) (hy : Lab.Norm blt plt ps (leftF ls ps x bs) y) :
    bothL ls ps y x = 0 ∧ flowsV ls ps y x = true ∧ lessE ls ps y bs = 0 ∧ lessE ls ps x ls = 0 ∧ (∀ u, Lab.Norm blt plt ps (leftF ls ps y bs) u → u = y) ∧ (∀ u, Lab.Norm blt plt ps (leftF ls ps x ls) u → u = []) ∧ (∀ p ∈ y, p.2.length ≤ 6) ∧ (∀ p ∈ y, SmallP p) ∧ y.length ≤ 200 := by
  obtain ⟨hx, ha⟩ := less_ok h
  obtain ⟨h0, hl, o1, s1⟩ := checkL_ok hx
  obtain ⟨_, hb⟩ := among_ok ha
  obtain ⟨g1, _, hr, _⟩ := right_of h0
  have hlm := left_mem (ps := ps) hr o1 hb
  have hsub : Lab.OfL ls (leftF ls ps x bs) := fun p hp => o1 p (hlm p hp).1
  obtain ⟨oy, sy, cy, my⟩ := norm_facts h0 hsub (fun p hp => s1 p (hlm p hp).1) hy
  have hyx := both_of cy hx
  refine ⟨hyx, (flowsV_iff hyx).2 (Lab.less_to hlm hy), by simp [lessE, cy, ha], by simp [lessE, hx, among_of g1 (fun s hs => hs)], fun u hu => ?_, fun u hu => ?_, sy, my, (checkL_ok cy).2.1⟩
  · rw [left_self hr oy hb (Lab.less_kept (fun p hp => (hlm p hp).2) hy)] at hu
    exact Lab.norm_unique plt_order hu (Lab.norm_norm blt_order hy)
  · exact Lab.less_none (fun p hp => (o1 p hp).1) (left_mem hr o1 (fun s hs => hs)) hu

set_option maxRecDepth 100000 in
set_option maxHeartbeats 4000000 in
theorem law_less (ao po xo vo : Option Addr) (b off b' off' n m c d xb xoff xn xc vb voff vn vc : Nat) (ls : List ByteArray) (ps : List (ByteArray × ByteArray)) (x : List Pol) (bs : List ByteArray) (w : World) (hc : Chiefs w ao po b off b' off' n m c ls ps)
    (hx : LabAt w xo xb xoff xn xc x) (hvn : vn = bs.length) (hvm : vn ≤ maxLen) (_ : vn ≤ vc) (hv : Strs w vo vb voff bs) (_ : ∀ s ∈ bs, s.size ≤ maxLen) :
    Calls Try.prog 7 #[.slice ao n c, .slice po m d, .slice xo xn xc, .slice vo vn vc] w fun e w' => e = .returned (.bool true) ∧ Below w.heap.size w w' := by
  have HC : Hid (Chiefs w ao po b off b' off' n m c ls ps) := hc
  have HX : Hid (LabAt w xo xb xoff xn xc x) := hx
  have HL : Hid (∀ W (lo : Option Addr) (lb loff ln lc : Nat) (q : List Pol), Below w.heap.size w W → LabAt W lo lb loff ln lc q → Calls Try.prog 21 #[.slice ao n c, .slice po m d, .slice lo ln lc, .slice vo vn vc] W fun e w' => ∃ (v : Value) (y : List Pol), e = .returned (.tuple #[v, .int .i64 (lessE ls ps q bs)]) ∧ (lessE ls ps q bs = 0 → Lab.Norm blt plt ps (leftF ls ps q bs) y) ∧ LabNew w' W.heap.size v y ∧ Below W.heap.size W w') := fun W lo lb loff ln lc q hW hq =>
    lessC ao po lo vo b off b' off' n m c d lb loff ln lc vb voff vn vc ls ps q bs W (hc.later hW) hq hvn hvm (hv.later hW)
  have HLL : Hid (∀ W (lo : Option Addr) (lb loff ln lc : Nat) (q : List Pol), Below w.heap.size w W → LabAt W lo lb loff ln lc q → Calls Try.prog 21 #[.slice ao n c, .slice po m d, .slice lo ln lc, .slice ao n c] W fun e w' => ∃ (v : Value) (y : List Pol), e = .returned (.tuple #[v, .int .i64 (lessE ls ps q ls)]) ∧ (lessE ls ps q ls = 0 → Lab.Norm blt plt ps (leftF ls ps q ls) y) ∧ LabNew w' W.heap.size v y ∧ Below W.heap.size W w') := fun W lo lb loff ln lc q hW hq =>
    lessC ao po lo ao b off b' off' n m c d lb loff ln lc b off n c ls ps q ls W (hc.later hW) hq hc.ln hc.mn (hc.strs.later hW)
  have h1 := HL.out w xo xb xoff xn xc x (Below.refl _ _) hx
  clear hc hx hvn hvm hv
  obtain ⟨e1, he1⟩ : ∃ e1, e1 = lessE ls ps x bs := ⟨_, rfl⟩
  rw [← he1] at h1
  have HE1 : Hid (lessE ls ps x bs = e1) := he1.symm
  clear he1
  go_enter Try.func7, Try.ntmps7
  go_wp2_with fail
  refine h1.mono ?_
  clear h1
  rintro e w1 ⟨v1, y, rfl, hn1, hl1, hb1⟩
  have HB1 : Hid (Below w.heap.size w w1) := hb1
  have HN1 : Hid (e1 = 0 → Lab.Norm blt plt ps (leftF ls ps x bs) y) := hn1
  have HL1 : Hid (LabNew w1 w.heap.size v1 y) := hl1
  clear hb1 hn1 hl1
  go_wp2_with fail
  refine (labelled_any _).mono ?_
  rintro e w2 ⟨rfl, hb2⟩
  have HB12 : Hid (Below w1.heap.size w1 w2) := hb2
  have HB2 : Hid (Below w.heap.size w w2) := HB1.out.trans (hb2.mono HB1.out.size)
  clear hb2
  by_cases g1 : e1 = 0
  · subst g1
    obtain ⟨r1, r2, r3, r4, r5, r6, r7, r8, r9⟩ := less_facts HE1.out (HN1.out rfl)
    obtain ⟨jo, jb, joff, jc, hv1, hj1⟩ := HL1.out.at' r8
    obtain ⟨jn, hjn⟩ : ∃ jn, jn = y.length := ⟨_, rfl⟩
    rw [← hjn] at hv1 hj1 r9
    subst hv1
    have HJ : Hid (LabAt w2 jo jb joff jn jc y) := hj1.later HB12.out
    have q1 := flowsC ao po jo xo b off b' off' n m c d jb joff jn jc xb xoff xn xc ls ps y x w2 (HC.out.later HB2.out) HJ.out (HX.out.later HB2.out)
    rw [r1, r2] at q1
    have R3 : Hid (lessE ls ps y bs = 0) := r3
    have R4 : Hid (lessE ls ps x ls = 0) := r4
    have R5 : Hid (∀ u, Lab.Norm blt plt ps (leftF ls ps y bs) u → u = y) := r5
    have R6 : Hid (∀ u, Lab.Norm blt plt ps (leftF ls ps x ls) u → u = []) := r6
    have R7 : Hid (∀ p ∈ y, p.2.length ≤ 6) := r7
    have R8 : Hid (∀ p ∈ y, SmallP p) := r8
    have HJN : Hid (jn = y.length) := hjn
    have HR9 : Hid (jn ≤ 200) := r9
    clear r1 r2 r3 r4 r5 r6 r7 r8 r9 hj1 hjn HL1 HN1 HE1 HB12 HB1
    go_wp2_with fail
    refine q1.mono ?_
    clear q1
    rintro e w3 ⟨rfl, hb3⟩
    have HB3 : Hid (Below w2.heap.size w2 w3) := hb3
    have HW3 : Hid (Below w.heap.size w w3) := HB2.out.trans (hb3.mono HB2.out.size)
    clear hb3
    have q2 := HL.out w3 jo jb joff jn jc y HW3.out (HJ.out.later HB3.out)
    rw [R3.out] at q2
    go_wp2_with fail
    refine q2.mono ?_
    clear q2
    rintro e w4 ⟨v4, u, rfl, hn4, hl4, hb4⟩
    have hu := R5.out u (hn4 (by trivial))
    subst hu
    obtain ⟨ko, kb, koff, kc, hv4, hk4⟩ := hl4.at' R8.out
    rw [← HJN.out] at hv4 hk4
    subst hv4
    have HK : Hid (LabAt w4 ko kb koff jn kc u) := hk4
    have HB4 : Hid (Below w2.heap.size w2 w4) := HB3.out.trans (hb4.mono HB3.out.size)
    have HW4 : Hid (Below w.heap.size w w4) := HB2.out.trans (HB4.out.mono HB2.out.size)
    clear hn4 hl4 hb4 hk4
    have q3 := HLL.out w4 xo xb xoff xn xc x HW4.out (HX.out.later HW4.out)
    rw [R4.out] at q3
    go_wp2_with fail
    refine q3.mono ?_
    clear q3
    rintro e w5 ⟨v5, t, rfl, hn5, hl5, hb5⟩
    have ht := R6.out t (hn5 (by trivial))
    subst ht
    obtain ⟨so, sb, soff, sc, hv5, _⟩ := hl5.at' (fun p hp => by cases hp)
    simp only [List.length_nil] at hv5
    subst hv5
    have HB45 : Hid (Below w4.heap.size w4 w5) := hb5
    have HB5 : Hid (Below w2.heap.size w2 w5) := HB4.out.trans (hb5.mono HB4.out.size)
    have HW5 : Hid (Below w.heap.size w w5) := HB2.out.trans (HB5.out.mono HB2.out.size)
    have q4 := sameLabel jo ko jb joff kb koff jn jc kc u w5 (by have := HR9.out; omega) (HJ.out.later HB5.out) (HK.out.later HB45.out) R7.out
    clear hn5 hl5 hb5
    go_wp2_with fail
    refine q4.mono ?_
    clear q4
    rintro e w6 ⟨rfl, hb6⟩
    have HW6 : Hid (Below w.heap.size w w6) := HW5.out.trans (hb6.mono HW5.out.size)
    clear hb6
    go_wp2
    go_ret
    exact ⟨rfl, HW6.out⟩
  · have bn : (e1 == 0) = false := by simp [g1]
    have bb : (e1 != 0) = true := by simp [g1]
    go_wp2_with fail
    refine (labelled_any _).mono ?_
    rintro e w4 ⟨rfl, hb4⟩
    have HW : Hid (Below w.heap.size w w4) := HB2.out.trans (hb4.mono HB2.out.size)
    clear hb4
    go_wp2
    go_ret
    exact ⟨rfl, HW.out⟩
end Go.Proofs.Ytjidnkecjkngnaa
