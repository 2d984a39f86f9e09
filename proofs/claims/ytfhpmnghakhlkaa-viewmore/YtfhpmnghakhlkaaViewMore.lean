/- Proved: called with any chiefs, any two lists of pairs, any text and any events that can be read as data, in whatever memory and on every schedule, the law ViewMore returns true, and the arguments read behind the call as they read before. No condition. -/
import Derived.Test.YtfhpmnghakhlkaaRows
import Derived.Test.YtfhpmnghakhlkaaLawSee
import Derived.Test.YtfhpmnghakhlkaaOpenE
import Derived.WalkKit
import Derived.ProofKit
import Derived.OpenShut
import Derived.ShutString
import Derived.ChangeOld
import Derived.SizedLaws
import Derived.Below
namespace Go.Proofs.Ytfhpmnghakhlkaa.viewMore
open Go.ChangeShapes Go.WideShapes Go.ChangeAt Go.RowKit
open Go.ChangeMaps (open_string shut_string)

theorem own : ownKnob Try.prog.godebug = none := by kernel_rfl
theorem laidOut : laidOutB Try.prog = true := by kernel_rfl
theorem bytesPair : Try.prog.bytesOf 29 = 32 := by kernel_rfl

/- How many bytes a slice of pairs takes. -/
theorem pairs_room {H : Type} {enc : TypeId × Value → H} {w : World} {ts : List TypeId} {ds : List (DataW H)} {j fuel : Nat} {x : DataW H × List MemPlace} {ao : Option Addr} {len cap : Nat} (hsz : (DataW.weightsEach Try.prog ts ds).all (· ≤ reachBytes) = true)
    (ht : ts[j]? = some 23) (hd : ds[j]? = some x.1) (h : DataW.trod enc Try.prog w 0 (fun _ => true) true fuel 23 [.slice ao len cap] = some x) : len * 32 ≤ 140737488351232 := by
  rcases Deep.open_slice Try.underlying23 h with ⟨hcs, _⟩ | ⟨a, len', cap', m, n, D, Pl, hcs, _, hl, hm, hmm, hx, _⟩
  · simp at hcs
    obtain ⟨_, rfl, _⟩ := hcs
    omega
  · simp at hcs
    obtain ⟨rfl, rfl, rfl⟩ := hcs
    rw [hx] at hd
    have := sized_slice hsz ht hd Try.underlying23
    rw [bytesPair] at this
    simp only [List.length_map, List.length_range, reachBytes] at this
    omega

set_option maxRecDepth 100000 in
theorem lifted (os : Os) (started : os.Started) (H : Type) (enc : TypeId × Value → H) :
    ReturnsInHanded {} Try.checked os 3 .any (Rows.viewMoreSpec.pre6 enc Try.prog Try.f3 Rows.viewMoreRow.domain false) (Rows.viewMoreSpec.post enc Try.prog Try.f3 false true false false) := by
  refine returnsInHanded_of_change_sized (C := Try.checked) own started (by kernel_rfl) Try.func3
    (ChangeSpec.witness6 (enc := enc) (C := Try.checked) false ⟨#[], #[.slice none 0 0, .slice none 0 0, .slice none 0 0, .string ⟨#[]⟩, .slice none 0 0], []⟩ 8 (by kernel_rfl) (by kernel_rfl) (by kernel_rfl) (by kernel_rfl)) ?_
  intro W base args ds gs before hval0 hW _ hsz0 _
  have hval : ∀ (j : Nat) t v, Try.f3.params[j]? = some t → args[j]? = some v → Value.okWide Try.prog W .any base t v := hval0
  have hsz : (DataW.weightsEach Try.prog (Try.f3.params.toList ++ Rows.viewMoreSpec.plain.varTypes Try.prog) (ds ++ gs)).all (· ≤ reachBytes) = true := hsz0
  have hW' := hW
  obtain ⟨p, q, hA0, hV, rfl, _, _⟩ := hW
  have hA : DataW.TrodAll enc Try.prog W 0 (fun _ => true) true Try.f3.params.toList args.toList ds p := hA0
  rw [Try.params3] at hA hval hsz
  obtain ⟨v0, vs0, d0, ds0, p0, q0, hargs, rfl, rfl, h0, r0⟩ := trodAll_cons hA
  obtain ⟨v1, vs1, d1, ds1, p1, q1, rfl, rfl, rfl, h1, r1⟩ := trodAll_cons r0
  obtain ⟨v2, vs2, d2, ds2, p2, q2, rfl, rfl, rfl, h2, r2⟩ := trodAll_cons r1
  obtain ⟨v3, vs3, d3, ds3, p3, q3, rfl, rfl, rfl, h3, r3⟩ := trodAll_cons r2
  obtain ⟨v4, vs4, d4, ds4, p4, q4, rfl, rfl, rfl, h4, r4⟩ := trodAll_cons r3
  obtain ⟨rfl, rfl, rfl⟩ := trodAll_nil r4
  obtain rfl : args = #[v0, v1, v2, v3, v4] := by cases args; simp_all
  obtain ⟨rfl, rfl⟩ := trodVars_none hV
  obtain ⟨a0, len0, cap0, rfl⟩ := okWide_slice Try.underlying22 (hval 0 22 v0 rfl rfl)
  obtain ⟨a1, len1, cap1, rfl⟩ := okWide_slice Try.underlying23 (hval 1 23 v1 rfl rfl)
  obtain ⟨a2, len2, cap2, rfl⟩ := okWide_slice Try.underlying23 (hval 2 23 v2 rfl rfl)
  obtain ⟨y, rfl, rfl, rfl, hy⟩ := open_string Try.underlying9 (hval 3 9 v3 rfl rfl) h3
  obtain ⟨a4, len4, cap4, rfl⟩ := okWide_slice Try.underlying24 (hval 4 24 v4 rfl rfl)
  have k0 := h0
  have k1 := h1
  have k2 := h2
  have k4 := h4
  have lt4 : ∀ x ∈ p4, x.block < W.heap.size := by obtain ⟨m, hm⟩ := k4; exact DataW.trod_lt m _ _ _ hm
  have lt0 : ∀ x ∈ p0, x.block < W.heap.size := by obtain ⟨m, hm⟩ := k0; exact DataW.trod_lt m _ _ _ hm
  have lt1 : ∀ x ∈ p1, x.block < W.heap.size := by obtain ⟨m, hm⟩ := k1; exact DataW.trod_lt m _ _ _ hm
  have lt2 : ∀ x ∈ p2, x.block < W.heap.size := by obtain ⟨m, hm⟩ := k2; exact DataW.trod_lt m _ _ _ hm
  obtain ⟨hc0, hm0, b, off, ls, hl0, hs0, hz0⟩ : len0 ≤ cap0 ∧ len0 ≤ maxLen ∧ ∃ b off ls, len0 = ls.length ∧ Strs W a0 b off ls ∧ ∀ s ∈ ls, s.size ≤ maxLen := by
    obtain ⟨fuel, hf⟩ := h0
    exact strs_open hf
  obtain ⟨hc1, hm1, b', off', ps, hl1, hs1⟩ : len1 ≤ cap1 ∧ len1 ≤ maxLen ∧ ∃ b off ps, len1 = ps.length ∧ Prs W a1 b off ps := by
    obtain ⟨fuel, hf⟩ := h1
    exact prs_open hf
  obtain ⟨hc2, hm2, b2, off2, qs, hl2, hs2⟩ : len2 ≤ cap2 ∧ len2 ≤ maxLen ∧ ∃ b off ps, len2 = ps.length ∧ Prs W a2 b off ps := by
    obtain ⟨fuel, hf⟩ := h2
    exact prs_open hf
  have z1 : len1 * 32 ≤ 140737488351232 := by
    obtain ⟨fuel, hf⟩ := k1
    exact pairs_room hsz (j := 1) rfl rfl hf
  have z2 : len2 * 32 ≤ 140737488351232 := by
    obtain ⟨fuel, hf⟩ := k2
    exact pairs_room hsz (j := 2) rfl rfl hf
  obtain ⟨hc4, hm4, hz4, b4, off4, vs, l, hl4, hv4, he4⟩ : len4 ≤ cap4 ∧ len4 ≤ maxLen ∧ len4 * 48 ≤ 140737488351232 ∧ ∃ b off vs l, len4 = l.length ∧ EvV W a4 b off vs ∧ EvL W vs l := by
    obtain ⟨fuel, hf⟩ := k4
    exact events_open hf (events_weights hsz (j := 4) rfl rfl)
  clear hA0 hval0 hsz0 hsz
  refine (law_see a0 a1 a2 a4 b off b' off' b2 off2 len0 len1 len2 cap0 cap1 cap2 b4 off4 len4 cap4 y ls ps qs vs l W ⟨hl0, hl1, hm0, hm1, hc0, hs0, hs1, hz0⟩ hl2 hs2 (by omega) hv4 he4 hl4 hm4).mono fun e W' ⟨he, bel⟩ => ?_
  subst he
  exact ⟨_, rfl, _, _, _, [], _, [], hW', trodAll_mk1 (shut_bool Try.underlying4 _), (trodAll_cons_mk (Below.trod laidOut (by kernel_rfl) (of_decide_eq_true (by kernel_rfl)) k0 bel lt0) (trodAll_cons_mk (Below.trod laidOut (by kernel_rfl) (of_decide_eq_true (by kernel_rfl)) k1 bel lt1) (trodAll_cons_mk (Below.trod laidOut (by kernel_rfl) (of_decide_eq_true (by kernel_rfl)) k2 bel lt2) (trodAll_cons_mk (shut_string Try.underlying9 hy) (trodAll_cons_mk (Below.trod laidOut (by kernel_rfl) (of_decide_eq_true (by kernel_rfl)) k4 bel lt4) trodAll_mk0))))), rfl, bel.frame _, fun h => by cases h⟩

theorem over : Rows.viewMoreRow.holds Try.pinned (OpenSpec.ofChange Rows.viewMoreSpec) :=
  OpenClaim.holds_of_wide 3 Try.f3 rfl rfl rfl rfl rfl rfl rfl ⟨rfl, rfl, rfl, rfl, rfl⟩ rfl rfl rfl rfl rfl (by kernel_rfl) Try.func3 (by kernel_rfl)
    (of_decide_eq_true (by kernel_rfl)) (by unfold Func.isWrapper; first | (rw [if_pos (by decide +kernel)]; kernel_rfl) | (rw [if_neg (by decide +kernel)]; exact ⟨rfl, rfl⟩))
    (fun os started H enc _ => lifted os started H enc)
end Go.Proofs.Ytfhpmnghakhlkaa.viewMore
namespace Go.Proofs.Ytfhpmnghakhlkaa
theorem viewMore_holds : Rows.ViewMoreSaid := viewMore.over
#print axioms viewMore_holds
end Go.Proofs.Ytfhpmnghakhlkaa
