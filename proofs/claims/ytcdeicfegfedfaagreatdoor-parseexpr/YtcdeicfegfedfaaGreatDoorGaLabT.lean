/- A policy, by its name alone: for seats that have no chiefs. The text of a label, in plain words; how long it is. -/
import Derived.Test.YtcdeicfegfedfaaGreatDoorLab
import Derived.WalkKit
import Derived.Lib.Join
namespace Go.Proofs.YtcdeicfegfedfaaGreatDoor
abbrev Pol := ByteArray × List ByteArray
end Go.Proofs.YtcdeicfegfedfaaGreatDoor

namespace Go.Proofs.YtcdeicfegfedfaaGreatDoor
open Go.RowKit

def polT (p : Pol) : List UInt8 := p.1.data.toList ++ (58 :: Lib.join (p.2.map (·.data.toList)) [44])
def bodyT (x : List Pol) : List UInt8 := Lib.join (x.map polT) [59]
def labelT (x : List Pol) : List UInt8 := 123 :: (bodyT x ++ [125])
def longB (p : Pol) : Bool := (decide (6 < p.2.length) || decide (12 < p.1.size)) || p.2.any fun r => decide (12 < r.size)
def printE (x : List Pol) : Int := if 200 < x.length ∨ x.any longB = true then 2 else 0
def printV (x : List Pol) : ByteArray := if printE x = 0 then ⟨(labelT x).toArray⟩ else ⟨#[]⟩
theorem join_snoc (l : List (List UInt8)) (a sep : List UInt8) : Lib.join (l ++ [a]) sep = (if l = [] then [] else Lib.join l sep ++ sep) ++ a := by
  match l with
  | [] => simp [Lib.join_one]
  | b :: r =>
    rw [List.cons_append, Lib.join_cons, Lib.join_cons, if_neg (by simp)]
    simp [Lib.joinTail]
theorem join_len (l : List (List UInt8)) (sep : List UInt8) (m : Nat) (h : ∀ a ∈ l, a.length + sep.length ≤ m) : (Lib.join l sep).length ≤ l.length * m := by
  match l with
  | [] => simp [Lib.join_nil]
  | b :: r =>
    rw [Lib.join_cons]
    have key : ∀ q : List (List UInt8), (∀ a ∈ q, a.length + sep.length ≤ m) → (Lib.joinTail sep q).length ≤ q.length * m := by
      intro q
      induction q with
      | nil => intro _; simp [Lib.joinTail]
      | cons a s ih =>
        intro hq
        have h1 := ih (fun a ha => hq a (by simp [ha]))
        have h2 := hq a (by simp)
        simp only [Lib.joinTail, List.map_cons, List.flatten_cons, List.length_append, List.length_cons] at h1 ⊢
        rw [Nat.succ_mul]; omega
    have h1 := key r (fun a ha => h a (by simp [ha]))
    have h2 := h b (by simp)
    simp only [List.length_append, List.length_cons]
    rw [Nat.succ_mul]; omega
theorem short_of {p : Pol} (h : longB p = false) : p.2.length ≤ 6 ∧ p.1.size ≤ 12 ∧ ∀ r ∈ p.2, r.size ≤ 12 := by
  simp only [longB, Bool.or_eq_false_iff, decide_eq_false_iff_not, List.any_eq_false, decide_eq_true_eq] at h
  exact ⟨by omega, by omega, fun r hr => by have := h.2 r hr; omega⟩
theorem readers_len {rs : List ByteArray} (h6 : rs.length ≤ 6) (h : ∀ r ∈ rs, r.size ≤ 12) : (Lib.join (rs.map (·.data.toList)) [44]).length ≤ 78 := by
  have := join_len (rs.map (·.data.toList)) [44] 13 (by
    intro a ha
    simp only [List.mem_map] at ha
    obtain ⟨r, hr, rfl⟩ := ha
    have := h r hr
    simp only [Array.length_toList, List.length_cons, List.length_nil]
    have : r.data.size = r.size := rfl
    omega)
  rw [List.length_map] at this
  have : rs.length * 13 ≤ 6 * 13 := Nat.mul_le_mul_right _ h6
  omega
theorem polT_len {p : Pol} (h : longB p = false) : (polT p).length ≤ 91 := by
  obtain ⟨h1, h2, h3⟩ := short_of h
  have := readers_len h1 h3
  have e : p.1.data.toList.length = p.1.size := by rw [Array.length_toList]; rfl
  simp only [polT, List.length_append, List.length_cons, e]
  omega
theorem bodyT_len {x : List Pol} (h : ∀ p ∈ x, longB p = false) : (bodyT x).length ≤ x.length * 92 := by
  have := join_len (x.map polT) [59] 92 (by
    intro a ha
    simp only [List.mem_map] at ha
    obtain ⟨p, hp, rfl⟩ := ha
    have := polT_len (h p hp)
    simp; omega)
  rwa [List.length_map] at this
theorem bodyT_first {x : List Pol} {k : Nat} (hk : k < x.length) (h0 : k = 0) : bodyT (x.take (k + 1)) = bodyT (x.take k) ++ polT x[k] := by
  subst h0
  rw [List.take_succ_eq_append_getElem hk]
  simp [bodyT, Lib.join_one, Lib.join_nil]
theorem bodyT_next {x : List Pol} {k : Nat} (hk : k < x.length) (h0 : 0 < k) : bodyT (x.take (k + 1)) = bodyT (x.take k) ++ (59 :: polT x[k]) := by
  rw [List.take_succ_eq_append_getElem hk]
  unfold bodyT
  rw [List.map_append, List.map_singleton, join_snoc, if_neg]
  · simp
  · intro e
    have := congrArg List.length e
    rw [List.length_map, List.length_take, List.length_nil] at this
    omega
end Go.Proofs.YtcdeicfegfedfaaGreatDoor
