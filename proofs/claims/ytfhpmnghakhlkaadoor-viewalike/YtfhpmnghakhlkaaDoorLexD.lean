/- One step of the reader, and what a whole text is read as. -/
import Derived.Test.YtfhpmnghakhlkaaDoorLexC
namespace Go.Proofs.YtfhpmnghakhlkaaDoor
namespace Lex
open Go

theorem run_pos' (p : Int → Bool) (l : List UInt8) (h : p (c0 l) = true) (h0 : l ≠ []) : 0 < runLen p l := by
  match l, h0 with
  | c :: r, _ => simp only [c0, List.headD_cons] at h; simp [runLen, h]
theorem take_self {l : List UInt8} {n : Nat} (h : n ≤ l.length) : l.take n = l.take (l.take n).length := by
  rw [List.length_take, Nat.min_eq_left h]

theorem letters_ok {l t : List UInt8} {k : Int} (h : lettersF l = (k, t, 0)) : k ≠ 0 ∧ t = l := by
  unfold lettersF at h
  split at h
  · simp at h
  · split at h <;> · simp only [Prod.mk.injEq] at h; exact ⟨by omega, h.2.1.symm⟩
theorem digits_ok {l t : List UInt8} {k : Int} (h : digitsF l = (k, t, 0)) : k ≠ 0 ∧ t = l := by
  unfold digitsF at h
  split at h
  · simp at h
  · simp only [Prod.mk.injEq] at h; exact ⟨by omega, h.2.1.symm⟩
theorem two_len {l : List UInt8} (h : twoB (l.take 2) = true) : 2 ≤ l.length := by
  match l with
  | [] => simp [twoB] at h
  | [a] => simp [twoB] at h
  | a :: b :: r => simp
theorem one_len {l : List UInt8} (h : oneB (c0 l) = true) : 1 ≤ l.length := by
  match l with
  | [] => exact absurd h (by decide)
  | a :: r => simp
theorem sign_ok (l : List UInt8) : signF l = l.take (signF l).length := by
  unfold signF
  split
  · rename_i h; exact take_self (two_len h)
  · split
    · rename_i h; exact take_self (one_len h)
    · simp
theorem first_ok {l t : List UInt8} {k : Int} (h : firstF l = (k, t, 0)) (h0 : l ≠ []) : k ≠ 0 ∧ 0 < t.length ∧ t = l.take t.length ∧ t.length ≤ l.length := by
  have key : k ≠ 0 ∧ 0 < t.length ∧ t = l.take t.length := by
    unfold firstF at h
    split at h
    · rename_i ha
      obtain ⟨hk, ht⟩ := letters_ok h
      have hp := run_pos' nameB l (by simp [nameB, ha]) h0
      have hl := runLen_le nameB l
      refine ⟨hk, by rw [ht, List.length_take]; omega, ?_⟩
      rw [ht]; exact take_self hl
    · split at h
      · rename_i ha hd
        obtain ⟨hk, ht⟩ := digits_ok h
        have hp := run_pos' digitB l hd h0
        have hl := runLen_le digitB l
        refine ⟨hk, by rw [ht, List.length_take]; omega, ?_⟩
        rw [ht]; exact take_self hl
      · split at h
        · simp at h
        · rename_i ha hd he
          simp only [Prod.mk.injEq] at h
          obtain ⟨hk, ht, _⟩ := h
          subst ht
          refine ⟨by omega, ?_, sign_ok l⟩
          cases hh : signF l with
          | nil => simp [hh] at he
          | cons a r => simp
  refine ⟨key.1, key.2.1, key.2.2, ?_⟩
  have h3 := congrArg List.length key.2.2
  rw [List.length_take] at h3
  omega

/- From place p: the token's kind, place, text, the error, and the place behind it. -/
def stepF (l : List UInt8) (p : Nat) : Int × Nat × List UInt8 × Int × Nat :=
  if p + gapF false (l.drop p) = l.length then (0, l.length, [], 0, l.length) else
    if (firstF (l.drop (p + gapF false (l.drop p)))).2.2 = 0 then ((firstF (l.drop (p + gapF false (l.drop p)))).1, p + gapF false (l.drop p), (firstF (l.drop (p + gapF false (l.drop p)))).2.1, 0, p + gapF false (l.drop p) + (firstF (l.drop (p + gapF false (l.drop p)))).2.1.length)
    else (0, p + gapF false (l.drop p), [], (firstF (l.drop (p + gapF false (l.drop p)))).2.2, p + gapF false (l.drop p))
theorem step_end {l : List UInt8} {p q : Nat} (hq : p + gapF false (l.drop p) = q) (h : q = l.length) : stepF l p = (0, q, [], 0, q) := by
  subst hq; unfold stepF; rw [if_pos h, h]
theorem step_tok {l t : List UInt8} {p q : Nat} {k : Int} (hq : p + gapF false (l.drop p) = q) (h : q ≠ l.length) (hf : firstF (l.drop q) = (k, t, 0)) : stepF l p = (k, q, t, 0, q + t.length) := by
  subst hq; unfold stepF; rw [if_neg h, hf]; simp
theorem step_bad {l t : List UInt8} {p q : Nat} {k c : Int} (hq : p + gapF false (l.drop p) = q) (h : q ≠ l.length) (hf : firstF (l.drop q) = (k, t, c)) (hc : c ≠ 0) : stepF l p = (0, q, [], c, q) := by
  subst hq; unfold stepF; rw [if_neg h, hf]; simp [hc]
theorem gap_end_le (l : List UInt8) (p : Nat) (h : p ≤ l.length) : p + gapF false (l.drop p) ≤ l.length := by
  have := gap_le false (l.drop p); rw [List.length_drop] at this; omega

end Lex
end Go.Proofs.YtfhpmnghakhlkaaDoor
