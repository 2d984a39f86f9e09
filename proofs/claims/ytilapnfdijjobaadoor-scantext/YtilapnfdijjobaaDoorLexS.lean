/- The longest sign at a text's head, found by going through all of them. -/
import Derived.Test.YtilapnfdijjobaaDoorLexE
import Derived.Lib.Strings
import Derived.Lib.IndexMore
namespace Go.Proofs.YtilapnfdijjobaaDoor
namespace Lex
def twoL : List (List UInt8) := [[38, 38], [124, 124], [61, 61], [33, 61], [60, 61], [62, 61]]
def oneL : List (List UInt8) := [[43], [45], [42], [47], [37], [60], [62], [33], [40], [41], [123], [125], [44], [59], [58], [61]]
def signsL : List (List UInt8) := twoL ++ oneL
def pick (l t w : List UInt8) : List UInt8 := if Lib.hasPrefix l w = true ∧ t.length < w.length then w else t
def bestUp (l : List UInt8) (k : Nat) : List UInt8 := (signsL.take k).foldl (pick l) []
theorem best_succ (l : List UInt8) {k : Nat} (hk : k < signsL.length) : bestUp l (k + 1) = pick l (bestUp l k) signsL[k] := by
  unfold bestUp
  rw [List.take_succ_eq_append_getElem hk, List.foldl_append]
  rfl
theorem pref_take {l w : List UInt8} (h : Lib.hasPrefix l w = true) : w = l.take w.length := by
  have : w <+: l := by simpa [Lib.hasPrefix] using h
  exact (List.prefix_iff_eq_take.1 this)
theorem pick_all (l : List UInt8) (n : Nat) (W : List (List UInt8)) (hW : ∀ w ∈ W, w.length = n) (t : List UInt8) : W.foldl (pick l) t = if t.length < n ∧ W.any (fun w => Lib.hasPrefix l w) = true then l.take n else t := by
  induction W generalizing t with
  | nil => simp
  | cons w r ih =>
    have hw := hW w (by simp)
    have hr : ∀ w ∈ r, w.length = n := fun x hx => hW x (by simp [hx])
    rw [List.foldl_cons]
    by_cases hp : Lib.hasPrefix l w = true
    · have ht := pref_take hp
      rw [hw] at ht
      by_cases hn : t.length < n
      · have e : pick l t w = w := by unfold pick; rw [if_pos ⟨hp, by rw [hw]; exact hn⟩]
        rw [e, ih hr, if_neg (by rw [hw]; omega), if_pos ⟨hn, by simp [hp]⟩]
        exact ht
      · have e : pick l t w = t := by unfold pick; rw [if_neg (by rw [hw]; exact fun h => hn h.2)]
        rw [e, ih hr, if_neg (fun h => hn h.1), if_neg (fun h => hn h.1)]
    · have hpf : Lib.hasPrefix l w = false := by simpa using hp
      have e : pick l t w = t := by unfold pick; rw [if_neg (fun h => hp h.1)]
      rw [e, ih hr]
      simp [hpf]
theorem two_any (l : List UInt8) : twoL.any (fun w => Lib.hasPrefix l w) = twoB (l.take 2) := by
  have e : ∀ p q : UInt8, Lib.hasPrefix l [p, q] = (l.take 2 == [p, q]) := by
    intro p q
    match l with
    | [] => simp [Lib.hasPrefix]
    | [x] =>
      simp only [Lib.hasPrefix, List.isPrefixOf_cons_cons, List.isPrefixOf_cons_nil, Bool.and_false]
      symm
      rw [beq_eq_false_iff_ne]
      simp
    | x :: y :: r =>
      rw [Bool.eq_iff_iff]
      simp only [Lib.hasPrefix, List.isPrefixOf_cons_cons, List.isPrefixOf_nil_left, Bool.and_true, Bool.and_eq_true, beq_iff_eq, List.take_succ_cons, List.take_zero, List.cons.injEq, and_true]
      constructor
      · rintro ⟨rfl, rfl⟩; exact ⟨rfl, rfl⟩
      · rintro ⟨rfl, rfl⟩; exact ⟨rfl, rfl⟩
  simp only [twoL, List.any_cons, List.any_nil, e, twoB, Bool.or_false, Bool.or_assoc]
theorem one_any (l : List UInt8) : oneL.any (fun w => Lib.hasPrefix l w) = oneB (c0 l) := by
  match l with
  | [] => decide
  | x :: r =>
    have e : ∀ p : UInt8, Lib.hasPrefix (x :: r) [p] = ((x.toNat : Int) == (p.toNat : Int)) := by
      intro p
      rw [Bool.eq_iff_iff]
      simp only [Lib.hasPrefix, List.isPrefixOf_cons_cons, List.isPrefixOf_nil_left, Bool.and_true, beq_iff_eq, Int.natCast_inj, UInt8.toNat_inj]
      exact eq_comm
    simp only [oneL, List.any_cons, List.any_nil, e, Bool.or_false]
    show _ = oneB (x.toNat : Int)
    simp [oneB, Bool.or_assoc]
theorem best_all (l : List UInt8) : bestUp l 22 = signF l := by
  have h : bestUp l 22 = oneL.foldl (pick l) (twoL.foldl (pick l) []) := by
    unfold bestUp
    rw [show signsL.take 22 = signsL from rfl, signsL, List.foldl_append]
  have t2 : twoL.foldl (pick l) [] = if twoB (l.take 2) = true then l.take 2 else [] := by
    rw [pick_all l 2 twoL (by decide), two_any]
    cases twoB (l.take 2) <;> simp
  rw [h, t2]
  unfold signF
  cases h2 : twoB (l.take 2) with
  | true =>
    have hl : ¬ (l.take 2).length < 1 := by
      intro hlt
      have : l.take 2 = [] := List.length_eq_zero_iff.1 (by omega)
      rw [this] at h2; cases h2
    rw [if_pos rfl, pick_all l 1 oneL (by decide), if_neg (fun h => hl h.1)]
    simp
  | false =>
    rw [if_neg (by simp), pick_all l 1 oneL (by decide), one_any]
    cases oneB (c0 l) <;> simp
theorem best_len (l : List UInt8) (k : Nat) : (bestUp l k).length ≤ 2 := by
  have h : ∀ (W : List (List UInt8)) (t : List UInt8), (∀ w ∈ W, w.length ≤ 2) → t.length ≤ 2 → (W.foldl (pick l) t).length ≤ 2 := by
    intro W
    induction W with
    | nil => intro t _ ht; exact ht
    | cons w r ih =>
      intro t hW ht
      rw [List.foldl_cons]
      refine ih _ (fun x hx => hW x (by simp [hx])) ?_
      unfold pick
      split
      · exact hW w (by simp)
      · exact ht
  refine h _ _ (fun w hw => ?_) (by simp)
  have h2 : ∀ w ∈ signsL, w.length ≤ 2 := by decide
  exact h2 w (List.mem_of_mem_take hw)
end Lex
end Go.Proofs.YtilapnfdijjobaaDoor
