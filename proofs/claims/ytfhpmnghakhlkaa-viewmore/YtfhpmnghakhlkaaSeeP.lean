/- What somebody sees of events, in plain words. -/
namespace Go.Proofs.Ytfhpmnghakhlkaa
namespace See
variable {β : Type} [DecidableEq β]
omit [DecidableEq β] in
/- Where more is let through no less is there. -/
theorem filter_more {P Q : β → Bool} : ∀ {l : List β}, (∀ x ∈ l, P x = true → Q x = true) → (l.filter P).Sublist (l.filter Q)
  | [], _ => .slnil
  | a :: r, h => by
    have ih := filter_more (l := r) fun x hx => h x (by simp [hx])
    by_cases hp : P a = true
    · rw [List.filter_cons_of_pos hp, List.filter_cons_of_pos (h a (by simp) hp)]
      exact ih.cons_cons a
    · rw [List.filter_cons_of_neg hp]
      by_cases hq : Q a = true
      · rw [List.filter_cons_of_pos hq]
        exact ih.cons a
      · rw [List.filter_cons_of_neg hq]
        exact ih
/- What is left of a, when each of b that is its next one is taken off. -/
def gone : List β → List β → List β
  | a, [] => a
  | [], _ :: _ => []
  | x :: a, y :: b => if x = y then gone a b else gone (x :: a) b
theorem gone_nil (b : List β) : gone ([] : List β) b = [] := by cases b <;> rfl
theorem gone_sub : ∀ {b a : List β}, a.Sublist b → gone a b = []
  | [], a, h => by
    cases h
    rfl
  | y :: b, [], _ => rfl
  | y :: b, x :: a, h => by
    show (if x = y then gone a b else gone (x :: a) b) = []
    by_cases e : x = y
    · rw [if_pos e]
      refine gone_sub ?_
      cases h with
      | cons _ g => exact (List.sublist_cons_self x a).trans g
      | cons_cons _ g => exact g
    · rw [if_neg e]
      refine gone_sub ?_
      cases h with
      | cons _ g => exact g
      | cons_cons _ g => exact absurd rfl e
/- How many of a have been taken off by b's first k. -/
def met : List β → List β → Nat
  | _, [] => 0
  | [], _ :: _ => 0
  | x :: a, y :: b => if x = y then met a b + 1 else met (x :: a) b
theorem met_nil (b : List β) : met ([] : List β) b = 0 := by cases b <;> rfl
theorem met_gone : ∀ (b a : List β), met a b + (gone a b).length = a.length
  | [], a => by cases a <;> simp [met, gone]
  | y :: b, [] => rfl
  | y :: b, x :: a => by
    show (if x = y then met a b + 1 else met (x :: a) b) + (if x = y then gone a b else gone (x :: a) b).length = _
    by_cases e : x = y
    · rw [if_pos e, if_pos e]
      have := met_gone b a
      simp only [List.length_cons]
      omega
    · rw [if_neg e, if_neg e]
      exact met_gone b (x :: a)
theorem met_le (b a : List β) : met a b ≤ a.length := by have := met_gone b a; omega
theorem met_all {a b : List β} (h : a.Sublist b) : met a b = a.length := by
  have := met_gone b a
  rw [gone_sub h] at this
  simpa using this
/- One more of b. -/
theorem met_snoc : ∀ (b a : List β) (y : β), met a (b ++ [y]) = met a b + if h : met a b < a.length then (if a[met a b] = y then 1 else 0) else 0
  | [], a, y => by
    cases a with
    | nil => rfl
    | cons x a =>
      show (if x = y then met a [] + 1 else met (x :: a) []) = _
      by_cases e : x = y <;> simp [met, e]
  | z :: b, [], y => by simp [met]
  | z :: b, x :: a, y => by
    show (if x = z then met a (b ++ [y]) + 1 else met (x :: a) (b ++ [y])) = _
    by_cases e : x = z
    · have hm : met (x :: a) (z :: b) = met a b + 1 := by show (if x = z then _ else _) = _; rw [if_pos e]
      rw [if_pos e, met_snoc b a y]
      simp only [hm]
      by_cases hl : met a b < a.length
      · simp [hl]; omega
      · simp [hl]
    · have hm : met (x :: a) (z :: b) = met (x :: a) b := by show (if x = z then _ else _) = _; rw [if_neg e]
      rw [if_neg e, met_snoc b (x :: a) y]
      simp only [hm]
end See
end Go.Proofs.Ytfhpmnghakhlkaa
