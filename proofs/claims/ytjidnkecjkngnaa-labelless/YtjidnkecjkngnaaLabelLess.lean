/- Proved: called with any chiefs, pairs and labels that can be read as data, in whatever memory and on every schedule, the law LabelLess returns true, and the arguments read behind the call as they read before. No condition. -/
import Derived.Test.YtjidnkecjkngnaaRows
import Derived.Test.YtjidnkecjkngnaaLawLess
import Derived.Test.YtjidnkecjkngnaaOpenL
import Derived.WalkKit
import Derived.ProofKit
import Derived.OpenShut
import Derived.ShutString
import Derived.ChangeOld
import Derived.Below
namespace Go.Proofs.Ytjidnkecjkngnaa.labelLess
open Go.ChangeShapes Go.WideShapes Go.ChangeAt Go.RowKit

theorem own : ownKnob Try.prog.godebug = none := by kernel_rfl
theorem laidOut : laidOutB Try.prog = true := by kernel_rfl

set_option maxRecDepth 100000 in
theorem lifted (os : Os) (started : os.Started) (H : Type) (enc : TypeId × Value → H) :
    ReturnsInHanded {} Try.checked os 7 .any (Rows.labelLessSpec.pre6 enc Try.prog Try.f7 Rows.labelLessRow.domain false) (Rows.labelLessSpec.post enc Try.prog Try.f7 false true false false) := by
  refine returnsInHanded_of_change (C := Try.checked) own started (by kernel_rfl) Try.func7
    (ChangeSpec.witness6 (enc := enc) (C := Try.checked) false ⟨#[], #[.slice none 0 0, .slice none 0 0, .slice none 0 0, .slice none 0 0], []⟩ 8 (by kernel_rfl) (by kernel_rfl) (by kernel_rfl) (by kernel_rfl)) ?_
  intro W base args ds gs before hval0 hW _ _
  have hval : ∀ (j : Nat) t v, Try.f7.params[j]? = some t → args[j]? = some v → Value.okWide Try.prog W .any base t v := hval0
  have hW' := hW
  obtain ⟨p, q, hA0, hV, rfl, _, _⟩ := hW
  have hA : DataW.TrodAll enc Try.prog W 0 (fun _ => true) true Try.f7.params.toList args.toList ds p := hA0
  rw [Try.params7] at hA hval
  obtain ⟨v0, vs0, d0, ds0, p0, q0, hargs, rfl, rfl, h0, r0⟩ := trodAll_cons hA
  obtain ⟨v1, vs1, d1, ds1, p1, q1, rfl, rfl, rfl, h1, r1⟩ := trodAll_cons r0
  obtain ⟨v2, vs2, d2, ds2, p2, q2, rfl, rfl, rfl, h2, r2⟩ := trodAll_cons r1
  obtain ⟨v3, vs3, d3, ds3, p3, q3, rfl, rfl, rfl, h3, r3⟩ := trodAll_cons r2
  obtain ⟨rfl, rfl, rfl⟩ := trodAll_nil r3
  obtain rfl : args = #[v0, v1, v2, v3] := by cases args; simp_all
  obtain ⟨rfl, rfl⟩ := trodVars_none hV
  obtain ⟨a0, len0, cap0, rfl⟩ := okWide_slice Try.underlying30 (hval 0 30 v0 rfl rfl)
  obtain ⟨a1, len1, cap1, rfl⟩ := okWide_slice Try.underlying31 (hval 1 31 v1 rfl rfl)
  obtain ⟨a2, len2, cap2, rfl⟩ := okWide_slice Try.underlying23 (hval 2 23 v2 rfl rfl)
  obtain ⟨a3, len3, cap3, rfl⟩ := okWide_slice Try.underlying30 (hval 3 30 v3 rfl rfl)
  have k0 := h0
  have k1 := h1
  have k2 := h2
  have k3 := h3
  have lt0 : ∀ x ∈ p0, x.block < W.heap.size := by obtain ⟨m, hm⟩ := k0; exact DataW.trod_lt m _ _ _ hm
  have lt1 : ∀ x ∈ p1, x.block < W.heap.size := by obtain ⟨m, hm⟩ := k1; exact DataW.trod_lt m _ _ _ hm
  have lt2 : ∀ x ∈ p2, x.block < W.heap.size := by obtain ⟨m, hm⟩ := k2; exact DataW.trod_lt m _ _ _ hm
  have lt3 : ∀ x ∈ p3, x.block < W.heap.size := by obtain ⟨m, hm⟩ := k3; exact DataW.trod_lt m _ _ _ hm
  obtain ⟨hc0, hm0, b0, off0, l0, hl0, hs0, hz0⟩ : len0 ≤ cap0 ∧ len0 ≤ maxLen ∧ ∃ b off ls, len0 = ls.length ∧ Strs W a0 b off ls ∧ ∀ s ∈ ls, s.size ≤ maxLen := by
    obtain ⟨fuel, hf⟩ := h0
    exact strs_open hf
  obtain ⟨hc1, hm1, b1, off1, l1, hl1, hs1⟩ : len1 ≤ cap1 ∧ len1 ≤ maxLen ∧ ∃ b off ps, len1 = ps.length ∧ Prs W a1 b off ps := by
    obtain ⟨fuel, hf⟩ := h1
    exact prs_open hf
  obtain ⟨b2, off2, l2, hs2⟩ : ∃ b off xs, LabAt W a2 b off len2 cap2 xs := by
    obtain ⟨fuel, hf⟩ := h2
    exact label_open hf
  obtain ⟨hc3, hm3, b3, off3, l3, hl3, hs3, hz3⟩ : len3 ≤ cap3 ∧ len3 ≤ maxLen ∧ ∃ b off ls, len3 = ls.length ∧ Strs W a3 b off ls ∧ ∀ s ∈ ls, s.size ≤ maxLen := by
    obtain ⟨fuel, hf⟩ := h3
    exact strs_open hf
  clear hA0 hval0
  refine (law_less a0 a1 a2 a3 b0 off0 b1 off1 len0 len1 cap0 cap1 b2 off2 len2 cap2 b3 off3 len3 cap3 l0 l1 l2 l3 W ⟨hl0, hl1, hm0, hm1, hc0, hs0, hs1, hz0⟩ hs2 hl3 hm3 hc3 hs3 hz3).mono fun e W' ⟨he, bel⟩ => ?_
  subst he
  exact ⟨_, rfl, _, _, _, [], _, [], hW', trodAll_mk1 (shut_bool Try.underlying4 _), (trodAll_cons_mk (Below.trod laidOut (by kernel_rfl) (of_decide_eq_true (by kernel_rfl)) k0 bel lt0) (trodAll_cons_mk (Below.trod laidOut (by kernel_rfl) (of_decide_eq_true (by kernel_rfl)) k1 bel lt1) (trodAll_cons_mk (Below.trod laidOut (by kernel_rfl) (of_decide_eq_true (by kernel_rfl)) k2 bel lt2) (trodAll_cons_mk (Below.trod laidOut (by kernel_rfl) (of_decide_eq_true (by kernel_rfl)) k3 bel lt3) trodAll_mk0)))), rfl, bel.frame _, fun h => by cases h⟩

theorem over : Rows.labelLessRow.holds Try.pinned (OpenSpec.ofChange Rows.labelLessSpec) :=
  OpenClaim.holds_of_wide 7 Try.f7 rfl rfl rfl rfl rfl rfl rfl ⟨rfl, rfl, rfl, rfl, rfl⟩ rfl rfl rfl rfl rfl (by kernel_rfl) Try.func7 (by kernel_rfl)
    (of_decide_eq_true (by kernel_rfl)) (by unfold Func.isWrapper; first | (rw [if_pos (by decide +kernel)]; kernel_rfl) | (rw [if_neg (by decide +kernel)]; exact ⟨rfl, rfl⟩))
    (fun os started H enc _ => lifted os started H enc)
end Go.Proofs.Ytjidnkecjkngnaa.labelLess
namespace Go.Proofs.Ytjidnkecjkngnaa
theorem labelLess_holds : Rows.LabelLessSaid := labelLess.over
#print axioms labelLess_holds
end Go.Proofs.Ytjidnkecjkngnaa
