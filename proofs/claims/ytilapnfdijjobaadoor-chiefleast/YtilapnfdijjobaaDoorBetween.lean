/- Contract of (chief.table).between. -/
import Derived.Test.YtilapnfdijjobaaDoorCheck
import Derived.Test.YtilapnfdijjobaaDoorTab
import Derived.BigQuiet
namespace Go.Proofs.YtilapnfdijjobaaDoor
open Go.RowKit

def betw (T : Nat → Nat → Bool) (i j k : Nat) : Bool := decide (k ≠ i) && decide (k ≠ j) && T i k && T k j
def betwAll (T : Nat → Nat → Bool) (i j n : Nat) : Bool := (List.range n).any (betw T i j)
theorem betwAll_succ (T : Nat → Nat → Bool) (i j n : Nat) : betwAll T i j (n + 1) = (betwAll T i j n || betw T i j n) := by
  simp [betwAll, List.range_succ, List.any_append]
theorem betwAll_hit {T : Nat → Nat → Bool} {i j k : Nat} (h : betw T i j k = true) (hk : k < 6) : betwAll T i j 6 = true := by
  simp only [betwAll, List.any_eq_true, List.mem_range]
  exact ⟨k, hk, h⟩

set_option maxHeartbeats 2000000 in
theorem between_any (T : Nat → Nat → Bool) (i j : Nat) (w : World) (hi : i < 6) (hj : j < 6) :
    Calls Tryd.prog 42 #[.agg (tabC T), .int .i64 i, .int .i64 j] w fun e w' => e = .returned (.bool (betwAll T i j 6)) ∧ Below w.heap.size w w' := by
  obtain ⟨TT, hTT⟩ : ∃ TT, TT = tabC T := ⟨_, rfl⟩
  rw [← hTT]
  have HTT : Hid (TT = tabC T) := hTT
  have hsz : TT.size = 36 := by rw [hTT]; exact tabC_size T
  clear hTT
  go_enter Tryd.func42, Tryd.ntmps42
  go_wp2
  have HT : Hid (TabAt (w.alloc (.cells TT 65)) w.heap.size T) := by
    show TabAt _ _ _
    rw [HTT.out]; exact heap_at_alloc _ _ _ rfl
  have HB : Hid (Below w.heap.size w (w.alloc (.cells TT 65))) := (Below.refl _ _).alloc (Nat.le_refl _) _
  obtain ⟨wq, hwq⟩ : ∃ wq, wq = w.alloc (.cells TT 65) := ⟨_, rfl⟩
  obtain ⟨B, hB⟩ : ∃ B, B = w.heap.size := ⟨_, rfl⟩
  rw [← hwq] at HT HB ⊢
  rw [← hB] at HT HB ⊢
  have l0 : B < wq.heap.size := lt_of_block HT.out
  clear hwq
  have HBW : Hid (B = w.heap.size) := hB
  clear hB
  go_loopw [8] (fun v wr => ∃ k : Nat, k ≤ 6 ∧ v = .int .i64 k ∧ Hid (betwAll T i j k = false) ∧ wr = wq) (fun v _ => 6 - (intOf v).toNat)
  case atStart => exact ⟨0, by omega, rfl, by show _ = _; rfl, rfl⟩
  case round =>
    obtain ⟨k, hk, rfl, HN, hw⟩ := hrel
    subst hw
    by_cases hlt : k < 6
    · have f1 := HT.out.cell (x := i) (y := k) hi hlt
      have f2 := HT.out.cell (x := k) (y := j) hlt hj
      have HS := betwAll_succ T i j k
      rw [HN.out, Bool.false_or] at HS
      have hd : decide ((k : Int) < 6) = true := by simp; omega
      have i1 : (i : Int) < 6 := by omega
      have i2 : (j : Int) < 6 := by omega
      have i3 : (k : Int) < 6 := by omega
      obtain ⟨v1, h1⟩ : ∃ v, T i k = v := ⟨_, rfl⟩
      obtain ⟨v2, h2⟩ : ∃ v, T k j = v := ⟨_, rfl⟩
      rw [h1] at f1
      rw [h2] at f2
      by_cases hki : k = i
      · have HE : Hid (betwAll T i j (k + 1) = false) := by show _ = _; rw [HS, betw]; simp [hki]
        have b1 : ((k : Int) == (i : Int)) = true := by simp [hki]
        have b2 : ((k : Int) != (i : Int)) = false := by simp [hki]
        clear HS h1 h2 hki
        go_wp2
        go_roundw
        case rel => exact ⟨k + 1, by omega, by go_num, HE, trivial⟩
        case measure => simp [intOf]; omega
      · have b1 : ((k : Int) == (i : Int)) = false := by simp; omega
        have b2 : ((k : Int) != (i : Int)) = true := by simp; omega
        by_cases hkj : k = j
        · have HE : Hid (betwAll T i j (k + 1) = false) := by show _ = _; rw [HS, betw]; simp [hkj]
          have b3 : ((k : Int) == (j : Int)) = true := by simp [hkj]
          have b4 : ((k : Int) != (j : Int)) = false := by simp [hkj]
          clear HS h1 h2 hki hkj
          go_wp2
          go_roundw
          case rel => exact ⟨k + 1, by omega, by go_num, HE, trivial⟩
          case measure => simp [intOf]; omega
        · have b3 : ((k : Int) == (j : Int)) = false := by simp; omega
          have b4 : ((k : Int) != (j : Int)) = true := by simp; omega
          have hbt : betw T i j k = (v1 && v2) := by simp [betw, hki, hkj, h1, h2]
          cases v1
          · have HE : Hid (betwAll T i j (k + 1) = false) := by show _ = _; rw [HS, hbt]; rfl
            clear HS h1 h2 hki hkj hbt
            go_wp2
            go_roundw
            case rel => exact ⟨k + 1, by omega, by go_num, HE, trivial⟩
            case measure => simp [intOf]; omega
          · cases v2
            · have HE : Hid (betwAll T i j (k + 1) = false) := by show _ = _; rw [HS, hbt]; rfl
              clear HS h1 h2 hki hkj hbt
              go_wp2
              go_roundw
              case rel => exact ⟨k + 1, by omega, by go_num, HE, trivial⟩
              case measure => simp [intOf]; omega
            · have HE : Hid (betwAll T i j 6 = true) := betwAll_hit (by rw [hbt]; rfl) hlt
              clear HS h1 h2 hki hkj hbt
              go_wp2
              go_ret
              rw [HE.out, ← HBW.out]
              exact ⟨rfl, HB.out⟩
    · obtain rfl : k = 6 := by omega
      go_wp2
      go_ret
      rw [HN.out, ← HBW.out]
      exact ⟨rfl, HB.out⟩
end Go.Proofs.YtilapnfdijjobaaDoor
