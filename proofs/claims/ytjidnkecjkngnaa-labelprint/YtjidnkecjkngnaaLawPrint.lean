/- The law LabelPrint, walked. -/
import Derived.Test.YtjidnkecjkngnaaLabelled
import Derived.Test.YtjidnkecjkngnaaLabQ
namespace Go.Proofs.Ytjidnkecjkngnaa
open Go.RowKit

set_option maxRecDepth 100000 in
set_option maxHeartbeats 2000000 in
theorem law_print (xo : Option Addr) (xb xoff xn xc : Nat) (x : List Pol) (w : World) (hx : LabP w xo xb xoff xn xc x) :
    Calls Try.prog 3 #[.slice xo xn xc] w fun e w' => e = .returned (.bool true) ∧ Below w.heap.size w w' := by
  have HX : Hid (LabP w xo xb xoff xn xc x) := hx
  have h1 := printC xo xb xoff xn xc x w hx
  have HLT : Hid (∀ W, Below w.heap.size w W → LabP W xo xb xoff xn xc x) := fun W hW => ⟨hx.ln, hx.mn, hx.pols.later hW⟩
  clear hx
  cases hL : longL x with
  | true =>
    obtain ⟨q1, q2⟩ := printV_no (x := x) ((longL_iff x).1 hL)
    rw [q1, q2] at h1
    have HL : Hid (longL x = true) := hL
    clear q1 q2 hL
    go_enter Try.func3, Try.ntmps3
    go_wp2_with fail
    refine h1.mono ?_
    rintro e w1 ⟨rfl, hb1⟩
    have HB1 : Hid (Below w.heap.size w w1) := hb1
    clear h1 hb1
    go_wp2_with fail
    refine (labelled_any _).mono ?_
    rintro e w2 ⟨rfl, hb2⟩
    have HB2 : Hid (Below w.heap.size w w2) := HB1.out.trans (hb2.mono HB1.out.size)
    have h3 := longR xo xb xoff xn xc x w2 (HLT.out w2 HB2.out)
    rw [HL.out] at h3
    clear hb2 HB1
    go_wp2_with fail
    refine h3.mono ?_
    rintro e w3 ⟨rfl, hb3⟩
    have HB3 : Hid (Below w.heap.size w w3) := HB2.out.trans (hb3.mono HB2.out.size)
    clear h3 hb3 HB2
    go_wp2_with fail
    refine (labelled_any _).mono ?_
    rintro e w4 ⟨rfl, hb4⟩
    go_wp2
    go_ret
    exact ⟨rfl, HB3.out.trans (hb4.mono HB3.out.size)⟩
  | false =>
    have hn : ¬ (200 < x.length ∨ x.any longB = true) := fun h => by rw [(longL_iff x).2 h] at hL; cases hL
    obtain ⟨q1, q2⟩ := printV_ok (x := x) (fun h => hn (.inl h)) (by
      cases h : x.any longB with
      | false => rfl
      | true => exact absurd (.inr h) hn)
    rw [q1, q2] at h1
    have HL : Hid (longL x = false) := hL
    obtain ⟨PT, hPT⟩ : ∃ PT : ByteArray, PT = ⟨(labelT x).toArray⟩ := ⟨_, rfl⟩
    rw [← hPT] at h1
    have HPT : Hid ((⟨(labelT x).toArray⟩ : ByteArray) = PT) := hPT.symm
    clear q1 q2 hL hn hPT
    go_enter Try.func3, Try.ntmps3
    go_wp2_with fail
    refine h1.mono ?_
    rintro e w1 ⟨rfl, hb1⟩
    have HB1 : Hid (Below w.heap.size w w1) := hb1
    clear h1 hb1
    go_wp2_with fail
    refine (labelled_any _).mono ?_
    rintro e w2 ⟨rfl, hb2⟩
    have HB2 : Hid (Below w.heap.size w w2) := HB1.out.trans (hb2.mono HB1.out.size)
    have h3 := longR xo xb xoff xn xc x w2 (HLT.out w2 HB2.out)
    rw [HL.out] at h3
    clear hb2 HB1
    go_wp2_with fail
    refine h3.mono ?_
    rintro e w3 ⟨rfl, hb3⟩
    have HB3 : Hid (Below w.heap.size w w3) := HB2.out.trans (hb3.mono HB2.out.size)
    have h4 := textR xo xb xoff xn xc x w3 (HLT.out w3 HB3.out) HL.out
    rw [HPT.out] at h4
    clear h3 hb3 HB2
    go_wp2_with fail
    refine h4.mono ?_
    rintro e w4 ⟨rfl, hb4⟩
    go_wp2
    go_ret
    exact ⟨by simp, HB3.out.trans (hb4.mono HB3.out.size)⟩
end Go.Proofs.Ytjidnkecjkngnaa
