/- The law's closed fact: chiefed returns true. -/
import Derived.Test.YtilapnfdijjobaaDoorEqC
import Derived.Test.YtilapnfdijjobaaDoorLeastC
namespace Go.Proofs.YtilapnfdijjobaaDoor
open Go.RowKit

def LL : List ByteArray := [⟨#[97]⟩, ⟨#[98]⟩, ⟨#[99]⟩]
def PP : List (ByteArray × ByteArray) := [(⟨#[97]⟩, ⟨#[98]⟩), (⟨#[98]⟩, ⟨#[99]⟩), (⟨#[97]⟩, ⟨#[99]⟩)]
theorem ll_actsE : actsE LL PP ⟨#[97]⟩ ⟨#[99]⟩ = 0 := by kernel_rfl
theorem ll_actsV : actsV LL PP ⟨#[97]⟩ ⟨#[99]⟩ = true := by kernel_rfl
theorem ll_leastE : leastE LL PP = 0 := by kernel_rfl
theorem ll_leastV : leastV LL PP = PP.take 2 := by kernel_rfl
theorem ll_chiefs (w : World) : Chiefs ((w.alloc (.cells #[.string ⟨#[97]⟩, .string ⟨#[98]⟩, .string ⟨#[99]⟩] 9)).alloc (.cells #[.string ⟨#[97]⟩, .string ⟨#[98]⟩, .string ⟨#[98]⟩, .string ⟨#[99]⟩, .string ⟨#[97]⟩, .string ⟨#[99]⟩] 48)) (some ⟨w.heap.size, 0, none⟩) (some ⟨w.heap.size + 1, 0, none⟩) w.heap.size 0 (w.heap.size + 1) 0 3 3 3 LL PP := by
  obtain ⟨wz, hz⟩ : ∃ wz, wz = (w.alloc (.cells #[.string ⟨#[97]⟩, .string ⟨#[98]⟩, .string ⟨#[99]⟩] 9)).alloc (.cells #[.string ⟨#[97]⟩, .string ⟨#[98]⟩, .string ⟨#[98]⟩, .string ⟨#[99]⟩, .string ⟨#[97]⟩, .string ⟨#[99]⟩] 48) := ⟨_, rfl⟩
  have h1 : wz.heap[w.heap.size]? = some (.cells #[.string ⟨#[97]⟩, .string ⟨#[98]⟩, .string ⟨#[99]⟩] 9 (0, 0)) := by rw [hz]; exact heap_past_alloc (heap_at_alloc _ _ _ rfl)
  have h2 : wz.heap[w.heap.size + 1]? = some (.cells #[.string ⟨#[97]⟩, .string ⟨#[98]⟩, .string ⟨#[98]⟩, .string ⟨#[99]⟩, .string ⟨#[97]⟩, .string ⟨#[99]⟩] 48 (0, 0)) := by rw [hz]; exact heap_at_alloc _ _ _ (by simp)
  rw [← hz]
  refine ⟨rfl, rfl, by unfold maxLen; omega, by unfold maxLen; omega, Nat.le_refl _, ⟨fun _ => rfl, ?_, fun _ => lt_of_block h1⟩, ⟨fun _ => rfl, ?_, ?_, fun _ => lt_of_block h2⟩, ?_⟩
  · intro k hk
    match k, hk with
    | 0, _ => simp [World.cell?, h1, LL]
    | 1, _ => simp [World.cell?, h1, LL]
    | 2, _ => simp [World.cell?, h1, LL]
  · intro k hk
    match k, hk with
    | 0, _ => simp [World.cell?, h2, PP]
    | 1, _ => simp [World.cell?, h2, PP]
    | 2, _ => simp [World.cell?, h2, PP]
  · intro k hk
    match k, hk with
    | 0, _ => simp [World.cell?, h2, PP]
    | 1, _ => simp [World.cell?, h2, PP]
    | 2, _ => simp [World.cell?, h2, PP]
  · intro s hs
    simp [LL] at hs
    rcases hs with rfl | rfl | rfl <;> (unfold maxLen; decide)
theorem Prs.take {w : World} {ao : Option Addr} {b off : Nat} {ps : List (ByteArray × ByteArray)} (h : Prs w ao b off ps) (k : Nat) : Prs w ao b off (ps.take k) := by
  refine ⟨fun hp => h.adr ?_, fun j hj => ?_, fun j hj => ?_, fun hp => h.lt ?_⟩
  · simp at hp; omega
  · simp at hj
    rw [h.c0 j (by omega)]
    simp
  · simp at hj
    rw [h.c1 j (by omega)]
    simp
  · simp at hp; omega

set_option maxHeartbeats 1000000 in
theorem chiefed_any (w : World) : Calls Tryd.prog 17 #[] w fun e w' => e = .returned (.bool true) ∧ Below w.heap.size w w' := by
  have HC : Hid (Chiefs _ _ _ _ _ _ _ _ _ _ LL PP) := ll_chiefs w
  have HB : Hid (Below w.heap.size w ((w.alloc (.cells #[.string ⟨#[97]⟩, .string ⟨#[98]⟩, .string ⟨#[99]⟩] 9)).alloc (.cells #[.string ⟨#[97]⟩, .string ⟨#[98]⟩, .string ⟨#[98]⟩, .string ⟨#[99]⟩, .string ⟨#[97]⟩, .string ⟨#[99]⟩] 48))) := ((Below.refl _ _).alloc (Nat.le_refl _) _).alloc (by simp) _
  go_enter Tryd.func17, Tryd.ntmps17
  go_wp2_with fail
  refine (acts_any _ _ _ _ _ _ _ _ _ _ LL PP _ _ _ HC.out).mono ?_
  rintro e w1 ⟨rfl, hb1⟩
  rw [ll_actsE, ll_actsV]
  have HC1 : Hid (Chiefs w1 _ _ _ _ _ _ _ _ _ LL PP) := HC.out.later hb1
  have HB1 : Hid (Below w.heap.size w w1) := HB.out.trans (hb1.mono HB.out.size)
  clear HC HB hb1
  go_wp2_with fail
  refine (least_any _ _ _ _ _ _ _ _ _ _ LL PP _ HC1.out).mono ?_
  rintro e w2 ⟨v, rfl, hown, hb2⟩
  rw [ll_leastE]
  rw [ll_leastV] at hown
  have HC2 : Hid (Chiefs w2 _ _ _ _ _ _ _ _ _ LL PP) := HC1.out.later hb2
  have HB2 : Hid (Below w.heap.size w w2) := HB1.out.trans (hb2.mono HB1.out.size)
  obtain ⟨bo, b2, cap2, hv, hc1, hc2, hp2⟩ := prs_of_own hown
  subst hv
  have HP2 : Hid (Prs w2 bo b2 0 (PP.take 2)) := hp2
  have el : (PP.take 2).length = 2 := rfl
  rw [el]
  clear HC1 HB1 hb2 hown hc1 hc2 hp2 el
  go_wp2_with fail
  refine (eqPr _ _ b2 0 (w.heap.size + 1) 0 2 _ _ (PP.take 2) _ rfl (by omega) HP2.out (HC2.out.prs.take 2)).mono ?_
  rintro e w3 ⟨rfl, hb3⟩
  go_wp2
  go_ret
  exact ⟨rfl, HB2.out.trans (hb3.mono HB2.out.size)⟩
end Go.Proofs.YtilapnfdijjobaaDoor
