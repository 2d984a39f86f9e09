/- slices.Equal at []api.Token: two rows that hold the same tokens are told to be equal. -/
import Derived.Test.YtilapnfdijjobaaDoorChecked
import Derived.Test.YtilapnfdijjobaaDoorLexE
import Derived.WalkKit
import Derived.ProofKit
import Derived.Deep.QuietTactic
import Derived.BigQuiet
namespace Go.Proofs.YtilapnfdijjobaaDoor
open Go.RowKit

set_option maxHeartbeats 1000000 in
theorem eqTok_at (g h n c d : Nat) (K Q : Nat → Int) (T : Nat → ByteArray) (w : World) (hn : n ≤ 1000)
    (a0 : ∀ k, k < n → w.cell? ⟨g, k * 3, none⟩ = some (.int .i64 (K k))) (a1 : ∀ k, k < n → w.cell? ⟨g, k * 3 + 1, none⟩ = some (.int .i64 (Q k))) (a2 : ∀ k, k < n → w.cell? ⟨g, k * 3 + 2, none⟩ = some (.string (T k)))
    (b0 : ∀ k, k < n → w.cell? ⟨h, k * 3, none⟩ = some (.int .i64 (K k))) (b1 : ∀ k, k < n → w.cell? ⟨h, k * 3 + 1, none⟩ = some (.int .i64 (Q k))) (b2 : ∀ k, k < n → w.cell? ⟨h, k * 3 + 2, none⟩ = some (.string (T k))) :
    Calls Tryd.prog 9 #[.slice (some ⟨g, 0, none⟩) n c, .slice (some ⟨h, 0, none⟩) n d] w fun e w' => e = .returned (.bool true) ∧ ∃ m, w' = w.drewN m := by
  go_enter Tryd.func9, Tryd.ntmps9
  go_wp2
  go_loopw [13] (fun i wr => ∃ k : Nat, k ≤ n ∧ i = .int .i64 k ∧ ∃ m, wr = w.drewN m) (fun i _ => n - (intOf i).toNat)
  case atStart => exact ⟨0, Nat.zero_le _, rfl, 0, rfl⟩
  case round =>
    obtain ⟨k, hk, rfl, m, rfl⟩ := hrel
    by_cases hlt : k < n
    · have f0 := a0 k hlt
      have f1 := a1 k hlt
      have f2 := a2 k hlt
      have g0 := b0 k hlt
      have g1 := b1 k hlt
      have g2 := b2 k hlt
      go_wp2
      go_quiet (fail)
      go_wp2
      go_roundw
      case rel => exact ⟨k + 1, by omega, by go_num, m + nq, by simp⟩
      case measure => simp [intOf]; omega
    · go_wp2
      go_ret
      exact ⟨rfl, m, rfl⟩
end Go.Proofs.YtilapnfdijjobaaDoor
