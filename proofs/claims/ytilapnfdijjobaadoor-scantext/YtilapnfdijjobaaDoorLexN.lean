/- A text with a note behind it has the same tokens. -/
import Derived.Test.YtilapnfdijjobaaDoorLexE
namespace Go.Proofs.YtilapnfdijjobaaDoor
namespace Lex
open Go

theorem gap_in_note (x : List UInt8) (h : ∀ c ∈ x, lineB (c.toNat : Int) = true) : gapF true x = x.length := by
  induction x with
  | nil => rfl
  | cons a r ih => simp only [gapF, h a (by simp), if_true, List.length_cons]; rw [ih (fun c hc => h c (by simp [hc]))]
theorem gap_full (n : List UInt8) (hn : ∀ c ∈ n, lineB (c.toNat : Int) = true) (b : Bool) : gapF b (32 :: 35 :: n) = n.length + 2 := by
  cases b
  · show gapF false (32 :: 35 :: n) = _
    simp only [gapF, show blankB (((32 : UInt8).toNat : Nat) : Int) = true from rfl, show blankB (((35 : UInt8).toNat : Nat) : Int) = false from rfl, show ((((35 : UInt8).toNat : Nat) : Int) == 35) = true from rfl, if_true]
    rw [gap_in_note n hn]
    rfl
  · rw [gap_in_note _ (by
      intro c hc
      simp at hc
      rcases hc with rfl | rfl | hc
      · rfl
      · rfl
      · exact hn c hc)]
    rfl
theorem gap_more (n : List UInt8) (hn : ∀ c ∈ n, lineB (c.toNat : Int) = true) (l : List UInt8) (b : Bool) :
    gapF b (l ++ 32 :: 35 :: n) = if gapF b l = l.length then l.length + (n.length + 2) else gapF b l := by
  induction l generalizing b with
  | nil => cases b <;> simp [gapF, gap_full n hn]
  | cons a r ih =>
    have h1 := ih true
    have h2 := ih false
    cases b <;> simp only [List.cons_append, gapF, List.length_cons]
    · split
      · rw [h2]; split <;> split <;> omega
      · split
        · rw [h1]; split <;> split <;> omega
        · rw [if_neg (by omega)]
    · split
      · rw [h1]; split <;> split <;> omega
      · rw [h2]; split <;> split <;> omega
theorem run_more (p : Int → Bool) (l x : List UInt8) (h32 : p 32 = false) : runLen p (l ++ 32 :: x) = runLen p l := by
  induction l with
  | nil => simp [runLen, h32]
  | cons a r ih => simp only [List.cons_append, runLen, ih]
theorem c0_more {l : List UInt8} (h : l ≠ []) (x : List UInt8) : c0 (l ++ x) = c0 l := by
  match l, h with
  | a :: t, _ => rfl
theorem sign_more {l : List UInt8} (h : l ≠ []) (x : List UInt8) : signF (l ++ 32 :: x) = signF l := by
  unfold signF
  rw [c0_more h]
  match l, h with
  | [a], _ =>
    have e1 : twoB (([a] ++ 32 :: x).take 2) = false := by simp [twoB]
    have e2 : twoB (([a] : List UInt8).take 2) = false := by simp [twoB]
    rw [e1, e2]; rfl
  | a :: b :: r, _ => rfl
theorem first_more {l : List UInt8} (h : l ≠ []) (x : List UInt8) : firstF (l ++ 32 :: x) = firstF l := by
  unfold firstF
  rw [c0_more h, run_more nameB l x (by decide), run_more digitB l x (by decide), sign_more h, List.take_append_of_le_length (runLen_le _ _), List.take_append_of_le_length (runLen_le _ _)]

theorem scan_more (l n : List UInt8) (hn : ∀ c ∈ n, lineB (c.toNat : Int) = true) : ∀ (f g p : Nat) (acc out : List Tok) (q : Nat), p ≤ l.length → l.length < p + f → f ≤ g → scanF l f p acc = (out, 0, q) → scanF (l ++ 32 :: 35 :: n) g p acc = (out, 0, 0) := by
  intro f
  induction f with
  | zero => intro g p acc out q h1 h2; omega
  | succ f ih =>
    intro g p acc out q hp hf hg h
    obtain ⟨g, rfl⟩ : ∃ g', g = g' + 1 := ⟨g - 1, by omega⟩
    have hq := gap_end_le l p hp
    have hd : (l ++ 32 :: 35 :: n).drop p = l.drop p ++ 32 :: 35 :: n := List.drop_append_of_le_length hp
    have hgm := gap_more n hn (l.drop p) false
    rw [← hd, List.length_drop] at hgm
    by_cases he : p + gapF false (l.drop p) = l.length
    · rw [scan_end (step_end rfl he)] at h
      simp only [Prod.mk.injEq] at h
      obtain ⟨rfl, _⟩ := h
      rw [if_pos (by omega)] at hgm
      rw [scan_end (step_end (q := l.length + (n.length + 2)) (by rw [hgm]; omega) (by simp))]
    · rw [if_neg (by omega)] at hgm
      have hne : l.drop (p + gapF false (l.drop p)) ≠ [] := by
        intro e; have := congrArg List.length e; simp at this; omega
      have hd2 : (l ++ 32 :: 35 :: n).drop (p + gapF false (l.drop p)) = l.drop (p + gapF false (l.drop p)) ++ 32 :: 35 :: n := List.drop_append_of_le_length hq
      obtain ⟨k, t, c, hfi⟩ : ∃ k t c, firstF (l.drop (p + gapF false (l.drop p))) = (k, t, c) := ⟨_, _, _, rfl⟩
      have hq2 : p + gapF false ((l ++ 32 :: 35 :: n).drop p) = p + gapF false (l.drop p) := by rw [hgm]
      have hfi2 : firstF ((l ++ 32 :: 35 :: n).drop (p + gapF false (l.drop p))) = (k, t, c) := by rw [hd2, first_more hne]; exact hfi
      have hne2 : p + gapF false (l.drop p) ≠ (l ++ 32 :: 35 :: n).length := by simp; omega
      by_cases hc : c = 0
      · subst hc
        have hok := first_ok hfi hne
        have h4 := hok.2.2.2
        rw [List.length_drop] at h4
        have hst := step_tok rfl he hfi
        have hst2 := step_tok hq2 hne2 hfi2
        by_cases h6 : acc.length = 600
        · rw [scan_full hst hok.1 h6] at h; simp at h
        · rw [scan_on hst hok.1 h6] at h
          rw [scan_on hst2 hok.1 h6]
          exact ih _ _ _ _ _ (by omega) (by omega) (by omega) h
      · rw [scan_bad (step_bad rfl he hfi hc) hc] at h
        simp only [Prod.mk.injEq] at h
        exact absurd h.2.1 hc
theorem scan_note {l n : List UInt8} {out : List Tok} {q : Nat} (hn : ∀ c ∈ n, lineB (c.toNat : Int) = true) (h : scanAll l = (out, 0, q)) (hs : l.length + n.length + 2 ≤ 4000) : scanAll (l ++ 32 :: 35 :: n) = (out, 0, 0) := by
  rw [scan_begin (by omega)] at h
  rw [scan_begin (by simp; omega)]
  exact scan_more l n hn _ _ 0 [] out q (by omega) (by omega) (by simp) h
theorem scan_len (l : List UInt8) : ∀ (f p : Nat) (acc out : List Tok) (c : Int) (q : Nat), scanF l f p acc = (out, c, q) → acc.length ≤ 600 → out.length ≤ 600 := by
  intro f
  induction f with
  | zero => intro p acc out c q h _; simp [scanF] at h; rw [h.1]; simp
  | succ f ih =>
    intro p acc out c q h ha
    unfold scanF at h
    split at h
    · split at h
      · simp only [Prod.mk.injEq] at h; rw [← h.1]; exact ha
      · split at h
        · simp only [Prod.mk.injEq] at h; rw [← h.1]; simp
        · exact ih _ _ _ _ _ h (by simp; omega)
    · simp only [Prod.mk.injEq] at h; rw [← h.1]; simp
theorem all_len {l : List UInt8} {out : List Tok} {c : Int} {q : Nat} (h : scanAll l = (out, c, q)) : out.length ≤ 600 := by
  by_cases hb : 4000 < l.length
  · rw [scan_many hb] at h; simp only [Prod.mk.injEq] at h; rw [← h.1]; simp
  · rw [scan_begin hb] at h; exact scan_len l _ _ _ _ _ _ h (by simp)
end Lex
end Go.Proofs.YtilapnfdijjobaaDoor
