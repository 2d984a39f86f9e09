/- slices.Equal at rows of strings: two rows that hold the same are told to be equal. -/
import Derived.Test.YtjidnkecjkngnaaOwnC
namespace Go.Proofs.Ytjidnkecjkngnaa
open Go.RowKit

set_option maxHeartbeats 1000000 in
theorem eqStr (ao bo : Option Addr) (b off b' off' n c d : Nat) (ls : List ByteArray) (w : World) (hn : n = ls.length) (hm : n ≤ 1000) (h1 : Strs w ao b off ls) (h2 : Strs w bo b' off' ls) :
    Calls Try.prog 29 #[.slice ao n c, .slice bo n d] w fun e w' => e = .returned (.bool true) ∧ Below w.heap.size w w' := by
  have HL : Hid (n = ls.length) := hn
  clear hn
  go_enter Try.func29, Try.ntmps29
  go_wp2
  go_loopw [13] (fun i wr => ∃ k : Nat, k ≤ n ∧ i = .int .i64 k ∧ ∃ m, wr = w.drewN m) (fun i _ => n - (intOf i).toNat)
  case atStart => exact ⟨0, Nat.zero_le _, rfl, 0, rfl⟩
  case round =>
    obtain ⟨k, hk, rfl, m, rfl⟩ := hrel
    by_cases hlt : k < n
    · have hl0 := HL.out
      have hkl : k < ls.length := by omega
      have e1 := h1.adr (by omega)
      have e2 := h2.adr (by omega)
      have f1 := h1.cell k hkl
      have f2 := h2.cell k hkl
      obtain ⟨x, hx⟩ : ∃ x, x = ls[k] := ⟨_, rfl⟩
      rw [← hx] at f1 f2
      subst e1 e2
      clear hl0 hx
      go_wp2
      go_quiet (fail)
      go_wp2
      go_roundw
      case rel => exact ⟨k + 1, by omega, by go_num, m + nq, by simp⟩
      case measure => simp [intOf]; omega
    · go_wp2
      go_ret
      exact ⟨rfl, below_drewN _ _⟩

end Go.Proofs.Ytjidnkecjkngnaa
