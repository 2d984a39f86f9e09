/- Bits of bytes and of words as the machine reckons them, in plain numbers. The policies of a set in their order, in plain words. -/
import Derived.Laws.Bits64b
import Derived.Laws.BitsLemmas
import Derived.Lib.TrailingZeros
namespace Go.Proofs.YtpbknhhjfhpkmaaGreatDoor
open Go

theorem or8 {a b : Nat} (ha : a < 256) (hb : b < 256) : bits .or .u8 (a : Int) (b : Int) = ((a ||| b : Nat) : Int) := (bits_nat .u8 8 (by decide) (fun n h1 h2 => wraps_u8 n h1 (by omega)) a b (by omega) (by omega)).2
theorem and8 {a b : Nat} (ha : a < 256) (hb : b < 256) : bits .and .u8 (a : Int) (b : Int) = ((a &&& b : Nat) : Int) := (bits_nat .u8 8 (by decide) (fun n h1 h2 => wraps_u8 n h1 (by omega)) a b (by omega) (by omega)).1
/- One group without another one. -/
def strike (a b : Nat) : Nat := a ^^^ (a &&& b)
theorem strike_bit (a b i : Nat) : (strike a b).testBit i = (a.testBit i && !b.testBit i) := by
  unfold strike
  rw [Nat.testBit_xor, Nat.testBit_and]
  cases a.testBit i <;> cases b.testBit i <;> rfl
theorem strike_lt {a b n : Nat} (ha : a < 2 ^ n) : strike a b < 2 ^ n := Nat.xor_lt_two_pow ha (Nat.lt_of_le_of_lt Nat.and_le_left ha)
theorem andnot8 {a b : Nat} (ha : a < 256) (hb : b < 256) : bits .andNot .u8 (a : Int) (b : Int) = ((strike a b : Nat) : Int) := by
  have ha' : a % 2 ^ 8 = a := Nat.mod_eq_of_lt (by omega)
  have hb' : b % 2 ^ 8 = b := Nat.mod_eq_of_lt (by omega)
  have hx : strike a b < 2 ^ 8 := strike_lt (by omega)
  have h1 : (BitVec.ofInt 8 (a : Int)) = BitVec.ofNat 8 a := by rw [BitVec.ofInt_natCast]
  have h2 : (BitVec.ofInt 8 (b : Int)) = BitVec.ofNat 8 b := by rw [BitVec.ofInt_natCast]
  have key : (BitVec.ofNat 8 a &&& ~~~ BitVec.ofNat 8 b).toNat = strike a b := by
    apply Nat.eq_of_testBit_eq
    intro i
    rw [strike_bit, BitVec.testBit_toNat, BitVec.getLsbD_and, BitVec.getLsbD_not, BitVec.getLsbD_ofNat, BitVec.getLsbD_ofNat]
    by_cases hi : i < 8
    · simp [hi]
    · have : a.testBit i = false := Nat.testBit_lt_two_pow (Nat.lt_of_lt_of_le (show a < 2 ^ 8 by omega) (Nat.pow_le_pow_right (by omega) (by omega)))
      simp [hi, this]
  show IntKind.u8.wrap ((BitVec.ofInt 8 (a : Int) &&& ~~~ BitVec.ofInt 8 (b : Int)).toNat : Int) = _
  rw [h1, h2, key, wraps_u8 _ (Int.natCast_nonneg _) (by exact_mod_cast hx)]
theorem one8 {i : Nat} (hi : i < 8) : IntKind.u8.wrap (1 * 2 ^ (min i 8)) = ((2 ^ i : Nat) : Int) := by
  have e : min i 8 = i := by omega
  rw [e, Int.one_mul]
  have h : (2 : Nat) ^ i < 2 ^ 8 := Nat.pow_lt_pow_right (by omega) hi
  rw [wraps_u8]
  · exact_mod_cast rfl
  · exact_mod_cast Nat.zero_le _
  · exact_mod_cast h
theorem one64 {i : Nat} (hi : i < 64) : IntKind.u64.wrap (1 * 2 ^ (min i 64)) = ((2 ^ i : Nat) : Int) := by
  have e : min i 64 = i := by omega
  rw [e, Int.one_mul, IntKind.wrap_u64]
  have h : (2 : Nat) ^ i < 18446744073709551616 := Nat.lt_of_lt_of_le (Nat.pow_lt_pow_right (by omega) hi) (by decide)
  have h' : ((2 ^ i : Nat) : Int) < ((18446744073709551616 : Nat) : Int) := Int.ofNat_lt.2 h
  have e2 : (2 : Int) ^ i = ((2 ^ i : Nat) : Int) := by exact_mod_cast rfl
  rw [e2]
  have := Int.natCast_nonneg (2 ^ i)
  omega

/- The lowest bit of a word. -/
theorem low_form {x : Nat} (h0 : x ≠ 0) (h : x < 2 ^ 64) : ∃ m, x = 2 ^ (Lib.ctz 64 x + 1) * m + 2 ^ Lib.ctz 64 x ∧ Lib.ctz 64 x < 64 := by
  obtain ⟨m, hm, hk⟩ := Lib.ctzFrom_spec 64 x (by omega) h
  have e : Lib.ctz 64 x = Lib.ctzFrom 64 x := by simp [Lib.ctz, h0]
  rw [e]
  refine ⟨m, ?_, hk⟩
  rw [Nat.pow_succ]
  have h3 : 2 ^ Lib.ctzFrom 64 x * (2 * m + 1) = 2 ^ Lib.ctzFrom 64 x * 2 * m + 2 ^ Lib.ctzFrom 64 x := by rw [Nat.mul_add, Nat.mul_one, Nat.mul_assoc]
  omega
theorem low_bits {x : Nat} (h0 : x ≠ 0) (h : x < 2 ^ 64) : x.testBit (Lib.ctz 64 x) = true ∧ (∀ j, j < Lib.ctz 64 x → x.testBit j = false) ∧ ∀ j, (x &&& (x - 1)).testBit j = (x.testBit j && !decide (j = Lib.ctz 64 x)) := by
  obtain ⟨m, hm, _⟩ := low_form h0 h
  obtain ⟨k, hk⟩ : ∃ k, k = Lib.ctz 64 x := ⟨_, rfl⟩
  rw [← hk] at hm ⊢
  have hp : 2 ^ k < 2 ^ (k + 1) := Nat.pow_lt_pow_right (by omega) (by omega)
  have h1 : ∀ j, x.testBit j = if j < k + 1 then decide (k = j) else m.testBit (j - (k + 1)) := fun j => by
    rw [hm, Nat.testBit_two_pow_mul_add m hp]
    split
    · rw [Nat.testBit_two_pow]
    · rfl
  have hpos : 0 < 2 ^ k := Nat.two_pow_pos k
  have hx1 : x - 1 = 2 ^ (k + 1) * m + (2 ^ k - 1) := by omega
  have h2 : ∀ j, (x - 1).testBit j = if j < k + 1 then decide (j < k) else m.testBit (j - (k + 1)) := fun j => by
    rw [hx1, Nat.testBit_two_pow_mul_add m (by omega)]
    split
    · rw [Nat.testBit_two_pow_sub_one]
    · rfl
  refine ⟨by rw [h1]; simp, fun j hj => ?_, fun j => ?_⟩
  · rw [h1, if_pos (by omega)]
    simp; omega
  · rw [Nat.testBit_and, h1, h2]
    by_cases hj : j < k + 1
    · rw [if_pos hj, if_pos hj]
      by_cases e : k = j
      · subst e; simp
      · simp [e]
    · rw [if_neg hj, if_neg hj]
      have e : ¬ j = k := by omega
      simp [e]
theorem low_less {x : Nat} (h0 : x ≠ 0) : x &&& (x - 1) < x := Nat.lt_of_le_of_lt Nat.and_le_right (by omega)
theorem low64 {x : Nat} (h0 : x ≠ 0) (h : x < 18446744073709551616) : bits .and .u64 (x : Int) (IntKind.u64.wrap ((x : Int) - 1)) = ((x &&& (x - 1) : Nat) : Int) := by
  have e : IntKind.u64.wrap ((x : Int) - 1) = ((x - 1 : Nat) : Int) := by rw [IntKind.wrap_u64]; omega
  rw [e, bits_and_u64_nat x (x - 1) h (by omega)]
end Go.Proofs.YtpbknhhjfhpkmaaGreatDoor

namespace Go.Proofs.YtpbknhhjfhpkmaaGreatDoor

/- The bits of a word, rising. -/
def bitsOf (x : Nat) : List Nat := (List.range 64).filter fun i => x.testBit i
theorem bitsOf_mem {x i : Nat} : i ∈ bitsOf x ↔ i < 64 ∧ x.testBit i = true := by simp [bitsOf]
theorem bitsOf_zero : bitsOf 0 = [] := by
  unfold bitsOf
  rw [List.filter_eq_nil_iff]
  intro i _
  simp
theorem filter_first {P Q : Nat → Bool} {c : Nat} : ∀ {l : List Nat}, l.Pairwise (· < ·) → c ∈ l → P c = true → (∀ i, i < c → P i = false) → (∀ i, Q i = (P i && !decide (i = c))) → l.filter P = c :: l.filter Q
  | [], _, hc, _, _, _ => by cases hc
  | a :: r, hp, hc, h1, h2, h3 => by
    rw [List.pairwise_cons] at hp
    rcases List.mem_cons.1 hc with rfl | hc
    · rw [List.filter_cons_of_pos h1, List.filter_cons_of_neg (by rw [h3]; simp)]
      congr 1
      apply List.filter_congr
      intro i hi
      have := hp.1 i hi
      rw [h3]
      have hne : ¬ i = c := by omega
      simp [hne]
    · have hac := hp.1 c hc
      have hPa : P a = false := h2 a hac
      rw [List.filter_cons_of_neg (by rw [hPa]; decide), List.filter_cons_of_neg (by rw [h3, hPa]; simp)]
      exact filter_first hp.2 hc h1 h2 h3
theorem range_sorted (n : Nat) : (List.range n).Pairwise (· < ·) := List.pairwise_lt_range
theorem bitsOf_step {x : Nat} (h0 : x ≠ 0) (h : x < 2 ^ 64) : bitsOf x = Lib.ctz 64 x :: bitsOf (x &&& (x - 1)) := by
  obtain ⟨b1, b2, b3⟩ := low_bits h0 h
  obtain ⟨_, _, hk⟩ := low_form h0 h
  exact filter_first (range_sorted 64) (by simp [hk]) b1 b2 b3
/- A policy: an owner's place, a group of readers. -/
abbrev PB := { p : Nat × Nat // p.1 < 6 ∧ p.2 < 64 }
def polsAt (s : Nat → Nat) (o : Nat) (h : o < 6) : List PB := (bitsOf (s o)).attach.map fun r => ⟨(o, r.1), h, (bitsOf_mem.1 r.2).1⟩
/- Those of the first k owners. -/
def polsF (s : Nat → Nat) : Nat → List PB
  | 0 => []
  | k + 1 => polsF s k ++ (if h : k < 6 then polsAt s k h else [])
theorem polsAt_mem {s : Nat → Nat} {o : Nat} {h : o < 6} {p : PB} : p ∈ polsAt s o h ↔ p.1.1 = o ∧ (s o).testBit p.1.2 = true := by
  unfold polsAt
  simp only [List.mem_map, List.mem_attach, true_and, Subtype.exists]
  constructor
  · rintro ⟨r, hr, rfl⟩
    exact ⟨rfl, (bitsOf_mem.1 hr).2⟩
  · rintro ⟨h1, h2⟩
    obtain ⟨⟨o', r⟩, ho, hr⟩ := p
    simp only at h1 h2
    subst h1
    exact ⟨r, bitsOf_mem.2 ⟨hr, h2⟩, rfl⟩
theorem polsF_mem {s : Nat → Nat} {p : PB} : ∀ {k : Nat}, p ∈ polsF s k ↔ p.1.1 < k ∧ (s p.1.1).testBit p.1.2 = true
  | 0 => by simp [polsF]
  | k + 1 => by
    rw [polsF, List.mem_append, polsF_mem]
    by_cases h : k < 6
    · rw [dif_pos h, polsAt_mem]
      constructor
      · rintro (⟨h1, h2⟩ | ⟨h1, h2⟩)
        · exact ⟨by omega, h2⟩
        · rw [h1]; exact ⟨by omega, h2⟩
      · rintro ⟨h1, h2⟩
        by_cases e : p.1.1 = k
        · rw [e] at h2; exact .inr ⟨e, h2⟩
        · exact .inl ⟨by omega, h2⟩
    · rw [dif_neg h]
      have := p.2.1
      constructor
      · rintro (⟨h1, h2⟩ | h1)
        · exact ⟨by omega, h2⟩
        · cases h1
      · rintro ⟨h1, h2⟩
        exact .inl ⟨by omega, h2⟩
end Go.Proofs.YtpbknhhjfhpkmaaGreatDoor
