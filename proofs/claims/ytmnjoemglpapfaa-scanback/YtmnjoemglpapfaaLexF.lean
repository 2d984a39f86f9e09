/- Tokens put together with a blank between each two are read as the same tokens. -/
import Derived.Test.YtmnjoemglpapfaaLexE
namespace Go.Proofs.Ytmnjoemglpapfaa
namespace Lex
open Go

/- A kind and a text that are read as one token, whatever follows behind a blank. -/
def Good (k : Int) (t : List UInt8) : Prop := t ≠ [] ∧ k ≠ 0 ∧ gapF false t = 0 ∧ ∀ r : List UInt8, (r = [] ∨ ∃ r', r = 32 :: r') → firstF (t ++ r) = (k, t, 0)

theorem run_take (p : Int → Bool) (l : List UInt8) : runLen p (l.take (runLen p l)) = runLen p l ∧ ∀ c ∈ l.take (runLen p l), p (c.toNat : Int) = true := by
  induction l with
  | nil => simp [runLen]
  | cons a r ih =>
    simp only [runLen]
    cases h : p (a.toNat : Int)
    · simp [runLen]
    · simp only [if_true, List.take_succ_cons, runLen, h, ih.1, true_and, List.mem_cons]
      rintro c (rfl | hc)
      · exact h
      · exact ih.2 c hc
theorem run_append (p : Int → Bool) (t r : List UInt8) (ht : ∀ c ∈ t, p (c.toNat : Int) = true) (hr : r = [] ∨ ∃ r', r = 32 :: r') (h32 : p 32 = false) : runLen p (t ++ r) = t.length := by
  induction t with
  | nil =>
    rcases hr with rfl | ⟨r', rfl⟩
    · rfl
    · simp [runLen, h32]
  | cons a t ih =>
    simp only [List.cons_append, runLen, ht a (by simp), if_true, List.length_cons]
    rw [ih (fun c hc => ht c (by simp [hc]))]
theorem c0_append {t : List UInt8} (h : t ≠ []) (r : List UInt8) : c0 (t ++ r) = c0 t := by
  match t, h with
  | a :: t, _ => rfl
theorem c0_take {l : List UInt8} {n : Nat} (h : 0 < n) : c0 (l.take n) = c0 l := by
  match l, n, h with
  | [], _, _ => simp
  | a :: l, n + 1, _ => rfl
theorem gap_zero {t : List UInt8} (hb : blankB (c0 t) = false) (hh : (c0 t == 35) = false) : gapF false t = 0 := by
  match t with
  | [] => rfl
  | a :: t =>
    have hb' : blankB ((a.toNat : Nat) : Int) = false := hb
    have hh' : (((a.toNat : Nat) : Int) == 35) = false := hh
    simp only [gapF, hb', hh']
    rfl
theorem alpha_gap {c : Int} (h : alphaB c = true) : blankB c = false ∧ (c == 35) = false := by
  simp [alphaB] at h; simp [blankB]; omega
theorem digit_gap {c : Int} (h : digitB c = true) : blankB c = false ∧ (c == 35) = false := by
  simp [digitB] at h; simp [blankB]; omega
theorem one_gap {c : Int} (h : oneB c = true) : blankB c = false ∧ (c == 35) = false ∧ alphaB c = false ∧ digitB c = false := by
  simp [oneB] at h; simp [blankB, alphaB, digitB]; omega
theorem two_gap {t : List UInt8} (h : twoB t = true) : blankB (c0 t) = false ∧ (c0 t == 35) = false ∧ alphaB (c0 t) = false ∧ digitB (c0 t) = false ∧ t.length = 2 ∧ t ≠ [] := by
  simp only [twoB, Bool.or_eq_true, beq_iff_eq] at h
  rcases h with ((((h | h) | h) | h) | h) | h <;> subst h <;> decide

theorem alpha_good {l : List UInt8} (h0 : l ≠ []) (ha : alphaB (c0 l) = true) {k : Int} (h : lettersF (l.take (runLen nameB l)) = (k, l.take (runLen nameB l), 0)) : Good k (l.take (runLen nameB l)) := by
  have hp := run_pos' nameB l (by simp [nameB, ha]) h0
  have hl := runLen_le nameB l
  have hne : l.take (runLen nameB l) ≠ [] := by
    intro e; have := congrArg List.length e; rw [List.length_take, Nat.min_eq_left hl, List.length_nil] at this; omega
  have hc : c0 (l.take (runLen nameB l)) = c0 l := c0_take hp
  have hg := alpha_gap ha
  refine ⟨hne, (letters_ok h).1, gap_zero (by rw [hc]; exact hg.1) (by rw [hc]; exact hg.2), fun r hr => ?_⟩
  rw [first_alpha (by rw [c0_append hne, hc]; exact ha), run_append nameB _ r (run_take nameB l).2 hr (by decide)]
  simp [h]
theorem digit_good {l : List UInt8} (h0 : l ≠ []) (ha : alphaB (c0 l) = false) (hd : digitB (c0 l) = true) {k : Int} (h : digitsF (l.take (runLen digitB l)) = (k, l.take (runLen digitB l), 0)) : Good k (l.take (runLen digitB l)) := by
  have hp := run_pos' digitB l hd h0
  have hl := runLen_le digitB l
  have hne : l.take (runLen digitB l) ≠ [] := by
    intro e; have := congrArg List.length e; rw [List.length_take, Nat.min_eq_left hl, List.length_nil] at this; omega
  have hc : c0 (l.take (runLen digitB l)) = c0 l := c0_take hp
  have hg := digit_gap hd
  refine ⟨hne, (digits_ok h).1, gap_zero (by rw [hc]; exact hg.1) (by rw [hc]; exact hg.2), fun r hr => ?_⟩
  rw [first_digit (by rw [c0_append hne, hc]; exact ha) (by rw [c0_append hne, hc]; exact hd), run_append digitB _ r (run_take digitB l).2 hr (by decide)]
  simp [h]
theorem two_good {t : List UInt8} (h : twoB t = true) : Good 4 t := by
  obtain ⟨h1, h2, h3, h4, h5, h6⟩ := two_gap h
  refine ⟨h6, by decide, gap_zero h1 h2, fun r _ => ?_⟩
  have e : (t ++ r).take 2 = t := by rw [List.take_append_of_le_length (by omega), List.take_of_length_le (by omega)]
  have hs : signF (t ++ r) = t := by unfold signF; rw [e, if_pos h]
  rw [first_sign (by rw [c0_append h6]; exact h3) (by rw [c0_append h6]; exact h4) (by rw [hs]; exact h6), hs]
theorem one_good {a : UInt8} (h : oneB ((a.toNat : Nat) : Int) = true) : Good 4 [a] := by
  obtain ⟨h1, h2, h3, h4⟩ := one_gap h
  refine ⟨by simp, by decide, gap_zero h1 h2, fun r hr => ?_⟩
  have ht : twoB (([a] ++ r).take 2) = false := by
    rcases hr with rfl | ⟨r', rfl⟩
    · simp [twoB]
    · simp [twoB]
  have hs : signF ([a] ++ r) = [a] := by
    unfold signF
    rw [ht, if_neg (by simp), if_pos (show oneB (c0 ([a] ++ r)) = true from h)]
    rfl
  rw [first_sign (by rw [c0_append (by simp)]; exact h3) (by rw [c0_append (by simp)]; exact h4) (by rw [hs]; simp), hs]
theorem first_good {l t : List UInt8} {k : Int} (h : firstF l = (k, t, 0)) (h0 : l ≠ []) : Good k t := by
  cases ha : alphaB (c0 l)
  · cases hd : digitB (c0 l)
    · by_cases hs : signF l = []
      · rw [first_none ha hd hs] at h; simp at h
      · rw [first_sign ha hd hs] at h
        simp only [Prod.mk.injEq, and_true] at h
        obtain ⟨rfl, rfl⟩ := h
        by_cases h2 : twoB (l.take 2) = true
        · have e : signF l = l.take 2 := by unfold signF; rw [if_pos h2]
          rw [e]; exact two_good h2
        · by_cases h1 : oneB (c0 l) = true
          · match l, h0 with
            | a :: l', _ =>
              have e : signF (a :: l') = [a] := by unfold signF; rw [if_neg h2, if_pos h1]; rfl
              rw [e]; exact one_good h1
          · exact absurd (by unfold signF; rw [if_neg h2, if_neg h1]) hs
    · rw [first_digit ha hd] at h
      have := (digits_ok h).2
      subst this
      exact digit_good h0 ha hd h
  · rw [first_alpha ha] at h
    have := (letters_ok h).2
    subst this
    exact alpha_good h0 ha h

theorem gap_append {t : List UInt8} (h : t ≠ []) (hg : gapF false t = 0) (r : List UInt8) : gapF false (t ++ r) = 0 := by
  match t, h with
  | a :: t, _ =>
    simp only [gapF] at hg
    split at hg
    · omega
    · split at hg
      · omega
      · rename_i h1 h2
        simp only [List.cons_append, gapF]
        rw [if_neg h1, if_neg h2]

/- Each text behind a blank. -/
def tailG (l : List (Int × List UInt8)) : List UInt8 := l.flatMap fun t => 32 :: t.2
theorem tailG_cons (t : Int × List UInt8) (l : List (Int × List UInt8)) : tailG (t :: l) = 32 :: (t.2 ++ tailG l) := by simp [tailG]
theorem tailG_form (l : List (Int × List UInt8)) : tailG l = [] ∨ ∃ r, tailG l = 32 :: r := by
  cases l with
  | nil => exact .inl rfl
  | cons a r => exact .inr ⟨_, tailG_cons a r⟩

theorem drop_more {J a b : List UInt8} {p : Nat} (h : J.drop p = a ++ b) : J.drop (p + a.length) = b := by
  rw [← List.drop_drop, h]; simp
theorem step_good {J : List UInt8} {p : Nat} {k : Int} {t r : List UInt8} (hg : Good k t) (hr : r = [] ∨ ∃ r', r = 32 :: r') (g : Nat) (hq : gapF false (J.drop p) = g) (hd : J.drop (p + g) = t ++ r) : stepF J p = (k, p + g, t, 0, p + g + t.length) := by
  have hne : p + g ≠ J.length := by
    intro e; rw [e, List.drop_length] at hd; have := congrArg List.length hd; simp at this; have := List.length_pos_iff.2 hg.1; omega
  exact step_tok (by rw [hq]) hne (by rw [hd]; exact hg.2.2.2 r hr)

theorem scan_tail (J : List UInt8) : ∀ (rest : List (Int × List UInt8)) (f p : Nat) (acc : List Tok), J.drop p = tailG rest → p ≤ J.length → (∀ t ∈ rest, Good t.1 t.2) → acc.length + rest.length ≤ 600 → rest.length < f →
    ∃ out, scanF J f p acc = (acc ++ out, 0, 0) ∧ out.map (fun t => (t.1, t.2.2)) = rest := by
  intro rest
  induction rest with
  | nil =>
    intro f p acc hd hp _ _ hf
    obtain ⟨f, rfl⟩ : ∃ f', f = f' + 1 := ⟨f - 1, by omega⟩
    have hl : p = J.length := by have := congrArg List.length hd; simp [tailG] at this; omega
    refine ⟨[], ?_, rfl⟩
    rw [scan_end (step_end (q := p) (by rw [hd]; rfl) hl)]
    simp
  | cons a r ih =>
    intro f p acc hd hp hg hl hf
    obtain ⟨f, rfl⟩ : ∃ f', f = f' + 1 := ⟨f - 1, by omega⟩
    have ga := hg a (by simp)
    have h1 : gapF false (J.drop p) = 1 := by
      rw [hd, tailG_cons]
      simp only [gapF, show blankB (((32 : UInt8).toNat : Nat) : Int) = true from rfl, if_true]
      rw [gap_append ga.1 ga.2.2.1]
    have hd1 : J.drop (p + 1) = a.2 ++ tailG r := drop_more (a := [32]) (by rw [hd, tailG_cons]; rfl)
    have hst := step_good ga (tailG_form r) 1 h1 hd1
    have hd2 := drop_more hd1
    have hle : p + 1 + a.2.length ≤ J.length := by
      have := congrArg List.length hd1; simp at this
      have := List.length_pos_iff.2 ga.1
      omega
    simp only [List.length_cons] at hl hf
    obtain ⟨out, ho, hm⟩ := ih f (p + 1 + a.2.length) (acc ++ [(a.1, p + 1, a.2)]) hd2 hle (fun t ht => hg t (by simp [ht])) (by simp; omega) (by omega)
    refine ⟨(a.1, p + 1, a.2) :: out, ?_, by simp [hm]⟩
    rw [scan_on hst ga.2.1 (by omega), ho]
    simp
theorem scan_glue (k : Int) (t : List UInt8) (rest : List (Int × List UInt8)) (hg : Good k t) (hr : ∀ t ∈ rest, Good t.1 t.2) (hl : rest.length < 600) (hs : (t ++ tailG rest).length ≤ 4000) :
    ∃ out, scanAll (t ++ tailG rest) = (out, 0, 0) ∧ out.map (fun t => (t.1, t.2.2)) = (k, t) :: rest := by
  have h0 : gapF false ((t ++ tailG rest).drop 0) = 0 := by rw [List.drop_zero]; exact gap_append hg.1 hg.2.2.1 _
  have hst := step_good hg (tailG_form rest) 0 h0 (by simp)
  simp only [Nat.add_zero, Nat.zero_add] at hst
  have hlen : rest.length ≤ (tailG rest).length := by
    clear hst h0 hs hl hr
    induction rest with
    | nil => simp
    | cons a r ih => rw [tailG_cons]; simp; omega
  have hp := List.length_pos_iff.2 hg.1
  obtain ⟨out, ho, hm⟩ := scan_tail (t ++ tailG rest) rest (t ++ tailG rest).length t.length [(k, 0, t)] (by simp) (by simp) hr (by simp; omega) (by simp; omega)
  refine ⟨(k, 0, t) :: out, ?_, by simp [hm]⟩
  rw [scan_begin (by omega), scan_on hst hg.2.1 (by simp)]
  simpa using ho
theorem scan_nil : scanAll [] = ([], 0, 0) := by decide

/- What is known of the tokens of a text. -/
def From (l : List UInt8) (t : Tok) : Prop := t.2.1 ≤ l.length ∧ t.2.2 = (l.drop t.2.1).take t.2.2.length ∧ Good t.1 t.2.2 ∧ t.2.2.length ≤ l.length
theorem scan_from (l : List UInt8) : ∀ (f p : Nat) (acc out : List Tok) (q : Nat), p ≤ l.length → scanF l f p acc = (out, 0, q) → acc.length ≤ 600 → (∀ t ∈ acc, From l t) → (∀ t ∈ out, From l t) ∧ out.length ≤ 600 := by
  intro f
  induction f with
  | zero => intro p acc out q _ h _ _; simp [scanF] at h; obtain ⟨rfl, _⟩ := h; simp
  | succ f ih =>
    intro p acc out q hp h hl ha
    have hq := gap_end_le l p hp
    by_cases he : p + gapF false (l.drop p) = l.length
    · rw [scan_end (step_end rfl he)] at h
      simp only [Prod.mk.injEq] at h
      obtain ⟨rfl, _⟩ := h
      exact ⟨ha, hl⟩
    · have hne : l.drop (p + gapF false (l.drop p)) ≠ [] := by
        intro e; have := congrArg List.length e; simp at this; omega
      obtain ⟨k, t, c, hf⟩ : ∃ k t c, firstF (l.drop (p + gapF false (l.drop p))) = (k, t, c) := ⟨_, _, _, rfl⟩
      by_cases hc : c = 0
      · subst hc
        have hst := step_tok rfl he hf
        have hok := first_ok hf hne
        by_cases h6 : acc.length = 600
        · rw [scan_full hst hok.1 h6] at h; simp at h
        · rw [scan_on hst hok.1 h6] at h
          have h4 := hok.2.2.2
          rw [List.length_drop] at h4
          refine ih _ _ _ _ (by omega) h (by simp; omega) ?_
          intro x hx
          rcases List.mem_append.1 hx with hx | hx
          · exact ha x hx
          · simp at hx; subst hx
            exact ⟨hq, hok.2.2.1, first_good hf hne, by show t.length ≤ _; omega⟩
      · rw [scan_bad (step_bad rfl he hf hc) hc] at h
        simp only [Prod.mk.injEq] at h
        exact absurd h.2.1 hc
theorem all_from {l : List UInt8} {out : List Tok} {q : Nat} (h : scanAll l = (out, 0, q)) : (∀ t ∈ out, From l t) ∧ out.length ≤ 600 ∧ l.length ≤ 4000 := by
  by_cases hb : 4000 < l.length
  · rw [scan_many hb] at h; simp at h
  · rw [scan_begin hb] at h
    have := scan_from l _ 0 [] out q (by omega) h (by simp) (by simp)
    exact ⟨this.1, this.2, by omega⟩
end Lex
end Go.Proofs.Ytmnjoemglpapfaa
