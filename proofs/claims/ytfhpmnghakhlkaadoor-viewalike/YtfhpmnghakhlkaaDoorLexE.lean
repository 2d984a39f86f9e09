/- What a whole text is read as: the tokens, or an error and its place. -/
import Derived.Test.YtfhpmnghakhlkaaDoorLexD
namespace Go.Proofs.YtfhpmnghakhlkaaDoor
namespace Lex
open Go

/- A token: its kind, its place, its text. -/
abbrev Tok := Int × Nat × List UInt8
def scanF (l : List UInt8) : Nat → Nat → List Tok → List Tok × Int × Nat
  | 0, _, _ => ([], 0, 0)
  | f + 1, p, acc =>
    if (stepF l p).2.2.2.1 = 0 then
      if (stepF l p).1 = 0 then (acc, 0, 0)
      else if acc.length = 600 then ([], 2, (stepF l p).2.1)
      else scanF l f (stepF l p).2.2.2.2 (acc ++ [((stepF l p).1, (stepF l p).2.1, (stepF l p).2.2.1)])
    else ([], (stepF l p).2.2.2.1, (stepF l p).2.1)
def scanAll (l : List UInt8) : List Tok × Int × Nat := if 4000 < l.length then ([], 2, 0) else scanF l (l.length + 1) 0 []

theorem scan_many {l : List UInt8} (h : 4000 < l.length) : scanAll l = ([], 2, 0) := by unfold scanAll; rw [if_pos h]
theorem scan_begin {l : List UInt8} (h : ¬ 4000 < l.length) : scanAll l = scanF l (l.length + 1) 0 [] := by unfold scanAll; rw [if_neg h]
theorem scan_end {l t : List UInt8} {f p q n : Nat} {acc : List Tok} (h : stepF l p = (0, q, t, 0, n)) : scanF l (f + 1) p acc = (acc, 0, 0) := by
  simp [scanF, h]
theorem scan_bad {l t : List UInt8} {f p q n : Nat} {k c : Int} {acc : List Tok} (h : stepF l p = (k, q, t, c, n)) (hc : c ≠ 0) : scanF l (f + 1) p acc = ([], c, q) := by
  simp [scanF, h, hc]
theorem scan_full {l t : List UInt8} {f p q n : Nat} {k : Int} {acc : List Tok} (h : stepF l p = (k, q, t, 0, n)) (hk : k ≠ 0) (ha : acc.length = 600) : scanF l (f + 1) p acc = ([], 2, q) := by
  simp [scanF, h, hk, ha]
theorem scan_on {l t : List UInt8} {f p q n : Nat} {k : Int} {acc : List Tok} (h : stepF l p = (k, q, t, 0, n)) (hk : k ≠ 0) (ha : ¬ acc.length = 600) : scanF l (f + 1) p acc = scanF l f n (acc ++ [(k, q, t)]) := by
  simp [scanF, h, hk, ha]

/- The tokens as they lie in memory, three cells each. -/
def cellsOf (l : List Tok) : List Value := l.flatMap fun t => [.int .i64 t.1, .int .i64 (t.2.1 : Int), .string ⟨t.2.2.toArray⟩]
theorem cellsOf_snoc (l : List Tok) (t : Tok) : cellsOf (l ++ [t]) = cellsOf l ++ [.int .i64 t.1, .int .i64 (t.2.1 : Int), .string ⟨t.2.2.toArray⟩] := by simp [cellsOf]
theorem cellsOf_length (l : List Tok) : (cellsOf l).length = l.length * 3 := by
  induction l with
  | nil => rfl
  | cons a r ih => simp only [cellsOf, List.flatMap_cons, List.length_append, List.length_cons, List.length_nil] at ih ⊢; omega
def placeOf (w : World) (b : Nat) : Nat := match w.cell? ⟨b, 0, none⟩ with | some (.int _ n) => n.toNat | _ => 0
theorem placeOf_of {w : World} {b p t : Nat} (h : w.heap[b]? = some (.cells #[.int .i64 (p : Int)] t (0, 0))) : placeOf w b = p := by
  simp [placeOf, World.cell?, h]
end Lex
end Go.Proofs.YtfhpmnghakhlkaaDoor
