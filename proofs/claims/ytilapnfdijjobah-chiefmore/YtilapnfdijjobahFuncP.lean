/- slices.ContainsFunc with the law's own test: are all of one row among another? -/
import Derived.Test.YtilapnfdijjobahCheck
import Derived.Test.YtilapnfdijjobahGrow
namespace Go.Proofs.Ytilapnfdijjobah
open Go.RowKit

theorem test_any (s : ByteArray) (yb : Nat) (yo : Option Addr) (b off n c : Nat) (ys : List ByteArray) (w : World) (hy : w.cell? ⟨yb, 0, none⟩ = some (.slice yo n c)) (hl : Hid (n = ys.length)) (hm : n ≤ 1000) (ht : Hid (Strs w yo b off ys)) (bo : Bool) (hbo : Hid (Act.has ys s = bo)) :
    Calls Try.prog 8 #[.string s, .pointer (some ⟨yb, 0, none⟩)] w fun e w' => e = .returned (.bool (!bo)) ∧ w' = w := by
  go_enter Try.func8, Try.ntmps8
  go_wp2_with fail
  refine (contains_any yo b off n c ys s _ hl.out (by unfold maxLen; omega) ht.out).mono ?_
  rintro e w1 ⟨rfl, hw⟩
  have hw' := hw.symm
  subst hw'
  rw [hbo.out]
  go_wp2
  go_ret
  exact ⟨rfl, rfl⟩

set_option maxHeartbeats 1000000 in
theorem indexFunc_none (ao : Option Addr) (b off n c : Nat) (ls : List ByteArray) (yb : Nat) (yo : Option Addr) (b' off' n' c' : Nat) (ys : List ByteArray) (w : World) (hn : n = ls.length) (hm : n ≤ 1000) (ht : Strs w ao b off ls)
    (hy : w.cell? ⟨yb, 0, none⟩ = some (.slice yo n' c')) (hl' : n' = ys.length) (hm' : n' ≤ 1000) (ht' : Strs w yo b' off' ys) (hall : ∀ s ∈ ls, s ∈ ys) :
    Calls Try.prog 18 #[.slice ao n c, .func (.func 8) #[] #[.pointer (some ⟨yb, 0, none⟩)]] w fun e w' => e = .returned (.int .i64 (-1)) ∧ w' = w := by
  have HL : Hid (n = ls.length) := hn
  have HL' : Hid (n' = ys.length) := hl'
  have HT' : Hid (Strs w yo b' off' ys) := ht'
  have HA : Hid (∀ s ∈ ls, s ∈ ys) := hall
  clear hn hl' ht' hall
  go_enter Try.func18, Try.ntmps18
  go_wp2
  go_loopw [8] (fun i wr => ∃ k : Nat, k ≤ n ∧ i = .int .i64 k ∧ wr = w) (fun i _ => n - (intOf i).toNat)
  case atStart => exact ⟨0, Nat.zero_le _, rfl, rfl⟩
  case round =>
    obtain ⟨k, hk, rfl, hw⟩ := hrel
    subst hw
    by_cases hlt : k < n
    · have hl0 := HL.out
      have hao := ht.adr (by omega)
      have hkl : k < ls.length := by omega
      have f0 := ht.cell k hkl
      obtain ⟨x, hx⟩ : ∃ x, x = ls[k] := ⟨_, rfl⟩
      have HB : Hid (Act.has ys x = true) := Act.has_iff.2 (HA.out x (hx ▸ List.getElem_mem hkl))
      rw [← hx] at f0
      clear hl0 hx
      subst hao
      go_wp2_with fail
      refine (test_any x yb yo b' off' n' c' ys _ hy HL' hm' HT' true HB).mono ?_
      rintro e w1 ⟨rfl, hw⟩
      have hw' := hw.symm
      subst hw'
      go_wp2
      go_roundw
      case rel => exact ⟨k + 1, by omega, by go_num, trivial⟩
      case measure => simp [intOf]; omega
    · go_wp2
      go_ret
      exact ⟨rfl, rfl⟩

theorem containsFunc_none (ao : Option Addr) (b off n c : Nat) (ls : List ByteArray) (yb : Nat) (yo : Option Addr) (b' off' n' c' : Nat) (ys : List ByteArray) (w : World) (hn : n = ls.length) (hm : n ≤ 1000) (ht : Strs w ao b off ls)
    (hy : w.cell? ⟨yb, 0, none⟩ = some (.slice yo n' c')) (hl' : n' = ys.length) (hm' : n' ≤ 1000) (ht' : Strs w yo b' off' ys) (hall : ∀ s ∈ ls, s ∈ ys) :
    Calls Try.prog 7 #[.slice ao n c, .func (.func 8) #[] #[.pointer (some ⟨yb, 0, none⟩)]] w fun e w' => e = .returned (.bool false) ∧ w' = w := by
  have HK : Hid (Calls Try.prog 18 #[.slice ao n c, .func (.func 8) #[] #[.pointer (some ⟨yb, 0, none⟩)]] w fun e w' => e = .returned (.int .i64 (-1)) ∧ w' = w) := indexFunc_none ao b off n c ls yb yo b' off' n' c' ys w hn hm ht hy hl' hm' ht' hall
  clear hn hm ht hy hl' hm' ht' hall
  go_enter Try.func7, Try.ntmps7
  go_wp2_with fail
  refine HK.out.mono ?_
  rintro e w1 ⟨rfl, hw⟩
  have hw' := hw.symm
  subst hw'
  go_wp2
  go_ret
  exact ⟨rfl, rfl⟩
end Go.Proofs.Ytilapnfdijjobah
