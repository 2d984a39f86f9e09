/- The law ScanJoin's walk: of any tokens it returns true. -/
import Derived.Test.YtmnjoemglpapfaaScanned
namespace Go.Proofs.Ytmnjoemglpapfaa
open Go.RowKit

theorem least_of (n : Nat) (P : Nat → Prop) : (∀ k, k < n → P k) ∨ ∃ i, i < n ∧ ¬ P i ∧ ∀ k, k < i → P k := by
  induction n with
  | zero => exact .inl (fun k hk => by omega)
  | succ m ih =>
    rcases ih with h | ⟨i, hi, hn, hk⟩
    · by_cases hm : P m
      · exact .inl fun k hk => by
          by_cases e : k = m
          · rw [e]; exact hm
          · exact h k (by omega)
      · exact .inr ⟨m, by omega, hm, h⟩
    · exact .inr ⟨i, by omega, hn, hk⟩

set_option maxHeartbeats 2000000 in
theorem law_many (ao : Option Addr) (b off n c : Nat) (K Q : Nat → Int) (T : Nat → ByteArray) (w : World) (hn : 600 < n) (hm : n ≤ maxLen) (ht : Toks w ao b off n K Q T) :
    Calls Try.prog 4 #[.slice ao n c] w fun e w' => e = .returned (.bool true) ∧ Below w.heap.size w w' := by
  have hao := ht.adr (by omega)
  subst hao
  have f0 := ht.c0 0 (by omega)
  have f1 := ht.c1 0 (by omega)
  have f2 := ht.c2 0 (by omega)
  simp only [Nat.zero_mul, Nat.add_zero] at f0 f1 f2
  unfold maxLen at hm
  go_enter Try.func4, Try.ntmps4
  go_wp2_with (go_at_call 7; refine (join_many _ _ _ _ hn (by unfold maxLen; omega)).mono ?_; rintro e w1 ⟨rfl, hw⟩; have hw' := hw.symm; subst hw')
  go_loopw [5, 6, 19] (fun x y v wr => x = .int .i64 2 ∧ y = .string ⟨#[]⟩ ∧ v = .int .i64 0 ∧ wr = w) (fun _ _ _ _ => 0)
  case atStart => exact ⟨rfl, rfl, rfl, rfl⟩
  case round =>
    obtain ⟨rfl, rfl, rfl, hw⟩ := hrel
    subst hw
    go_wp2_with fail
    refine (scanned_any _).mono ?_
    rintro e w2 ⟨rfl, hb2⟩
    go_wp2_with fail
    refine (scanned_any _).mono ?_
    rintro e w3 ⟨rfl, hb3⟩
    go_wp2
    go_ret
    exact ⟨rfl, (((Below.refl _ _).alloc (Nat.le_refl _) _).trans (hb2.mono (by simp))).trans (hb3.mono (by have := hb2.size; simp at this; omega))⟩

theorem cat_list (l : List UInt8) (s : ByteArray) : ((⟨l.toArray⟩ : ByteArray) ++ s) = ⟨(l ++ s.data.toList).toArray⟩ := by
  have : s = ⟨s.data.toList.toArray⟩ := by rfl
  rw [this, ByteArray.mk_append_mk]
theorem cat_step (T : Nat → ByteArray) (k : Nat) (h : (0 : Int) < (k : Int)) : Value.string ((⟨(joinUp T k).toArray⟩ : ByteArray) ++ ⟨#[32]⟩ ++ T k) = .string ⟨(joinUp T (k + 1)).toArray⟩ := by
  rw [cat_list, cat_list]
  have h' : ¬ k = 0 := by omega
  simp [joinUp, h']
theorem cat_step0 (T : Nat → ByteArray) (k : Nat) (h : ¬ (0 : Int) < (k : Int)) : Value.string ((⟨(joinUp T k).toArray⟩ : ByteArray) ++ T k) = .string ⟨(joinUp T (k + 1)).toArray⟩ := by
  rw [cat_list]
  have h' : k = 0 := by omega
  simp [joinUp, h']

set_option maxHeartbeats 2000000 in
theorem law_ok (ao : Option Addr) (b off n c : Nat) (K Q : Nat → Int) (T : Nat → ByteArray) (w : World) (hn : n ≤ 600) (ht : Toks w ao b off n K Q T) (hs : ∀ k, k < n → (T k).size ≤ 4000) :
    Calls Try.prog 4 #[.slice ao n c] w fun e w' => e = .returned (.bool true) ∧ Below w.heap.size w w' := by
  go_enter Try.func4, Try.ntmps4
  go_wp2_with fail
  refine (join_ok ao b off n c K Q T w hn ht hs).mono ?_
  rintro e w1 ⟨rfl, hb1⟩
  have hz1 := hb1.size
  go_wp2
  go_loopw [5, 6, 19] (fun x y v wr => ∃ k : Nat, k ≤ n ∧ x = .int .i64 0 ∧ y = .string ⟨(joinUp T k).toArray⟩ ∧ v = .int .i64 k ∧ Below w.heap.size w wr) (fun _ _ v _ => n - (intOf v).toNat)
  case atStart => exact ⟨0, Nat.zero_le _, rfl, rfl, rfl, hb1⟩
  case round =>
    obtain ⟨k, hk, rfl, rfl, rfl, hbel⟩ := hrel
    have hle := hbel.size
    have hJ := joinUp_le T k (fun i hi => hs i (by omega))
    by_cases hkn : k < n
    · have ht' := ht.later hbel
      have hao := ht.adr (by omega)
      subst hao
      have f0 := ht'.c0 k hkn
      have f1 := ht'.c1 k hkn
      have f2 := ht'.c2 k hkn
      have hz4 := hs k hkn
      clear ht'
      by_cases hp : (0 : Int) < (k : Int)
      · go_wp2
        go_roundw
        case rel => exact ⟨k + 1, by omega, rfl, cat_step T k hp, by go_num, hbel.alloc hle _⟩
        case measure => simp [intOf]; omega
      · go_wp2
        go_roundw
        case rel => exact ⟨k + 1, by omega, rfl, cat_step0 T k hp, by go_num, hbel.alloc hle _⟩
        case measure => simp [intOf]; omega
    · obtain rfl : k = n := by omega
      go_wp2_with fail
      refine (scanned_any _).mono ?_
      rintro e w2 ⟨rfl, hb2⟩
      go_wp2
      go_ret
      exact ⟨rfl, hbel.trans (hb2.mono hle)⟩

set_option maxHeartbeats 2000000 in
theorem law_big (ao : Option Addr) (b off n c i : Nat) (K Q : Nat → Int) (T : Nat → ByteArray) (w : World) (hn : n ≤ 600) (ht : Toks w ao b off n K Q T) (hm : ∀ k, k < n → (T k).size ≤ maxLen) (hi : i < n) (hbig : 4000 < (T i).size) (hs : ∀ k, k < i → (T k).size ≤ 4000) :
    Calls Try.prog 4 #[.slice ao n c] w fun e w' => e = .returned (.bool true) ∧ Below w.heap.size w w' := by
  have hao := ht.adr (by omega)
  subst hao
  go_enter Try.func4, Try.ntmps4
  go_wp2_with fail
  refine (join_big _ b off n c i K Q T w hn ht hm hi hbig hs).mono ?_
  rintro e w1 ⟨rfl, hb1⟩
  have hz1 := hb1.size
  unfold maxLen at hm
  go_wp2
  go_loopw [5, 6, 19] (fun x y v wr => ∃ k : Nat, k ≤ i ∧ x = .int .i64 0 ∧ y = .string ⟨(joinUp T k).toArray⟩ ∧ v = .int .i64 k ∧ Below w.heap.size w wr) (fun _ _ v _ => n - (intOf v).toNat)
  case atStart => exact ⟨0, Nat.zero_le _, rfl, rfl, rfl, hb1⟩
  case round =>
    obtain ⟨k, hk, rfl, rfl, rfl, hbel⟩ := hrel
    have hle := hbel.size
    have hJ := joinUp_le T k (fun i hi => hs i (by omega))
    have hkn : k < n := by omega
    have ht' := ht.later hbel
    have f0 := ht'.c0 k hkn
    have f1 := ht'.c1 k hkn
    have f2 := ht'.c2 k hkn
    have hz := hm k hkn
    clear ht'
    by_cases hki : k = i
    · subst hki
      go_wp2_with fail
      refine (scanned_any _).mono ?_
      rintro e w2 ⟨rfl, hb2⟩
      go_wp2_with fail
      refine (scanned_any _).mono ?_
      rintro e w3 ⟨rfl, hb3⟩
      have hz2 := hb2.size
      go_wp2
      go_ret
      exact ⟨rfl, ((hbel.alloc hle _).trans (hb2.mono (by simp; omega))).trans (hb3.mono (by simp at hz2; omega))⟩
    · have hz4 := hs k (by omega)
      by_cases hp : (0 : Int) < (k : Int)
      · go_wp2
        go_roundw
        case rel => exact ⟨k + 1, by omega, rfl, cat_step T k hp, by go_num, hbel.alloc hle _⟩
        case measure => simp [intOf]; omega
      · go_wp2
        go_roundw
        case rel => exact ⟨k + 1, by omega, rfl, cat_step0 T k hp, by go_num, hbel.alloc hle _⟩
        case measure => simp [intOf]; omega

theorem law_join (ao : Option Addr) (b off n c : Nat) (K Q : Nat → Int) (T : Nat → ByteArray) (w : World) (hm : n ≤ maxLen) (ht : Toks w ao b off n K Q T) (hsz : ∀ k, k < n → (T k).size ≤ maxLen) :
    Calls Try.prog 4 #[.slice ao n c] w fun e w' => e = .returned (.bool true) ∧ Below w.heap.size w w' := by
  by_cases hn : 600 < n
  · exact law_many ao b off n c K Q T w hn hm ht
  · rcases least_of n (fun k => (T k).size ≤ 4000) with h | ⟨i, hi, hb, hk⟩
    · exact law_ok ao b off n c K Q T w (by omega) ht h
    · exact law_big ao b off n c i K Q T w (by omega) ht hsz hi (by omega) hk
end Go.Proofs.Ytmnjoemglpapfaa
