/- Lists of bytes: dropped, trimmed, run through (where scan.Name's contract is NameC's). -/
import Derived.Test.YtfhpmnghakhlkaaDoorIsWord
import Derived.Test.YtfhpmnghakhlkaaDoorNameC
namespace Go.Proofs.YtfhpmnghakhlkaaDoor
open Go.RowKit

namespace Lex
theorem drop_nil (p : UInt8 → Bool) (x : List UInt8) : x.dropWhile p = [] ↔ ∀ a ∈ x, p a = true := by
  induction x with
  | nil => simp
  | cons a r ih =>
    simp only [List.dropWhile_cons, List.mem_cons, forall_eq_or_imp]
    cases p a <;> simp [ih]
theorem drop_head (p : UInt8 → Bool) (x : List UInt8) (h : x.dropWhile p ≠ []) : ∃ a ∈ x.dropWhile p, p a = false := by
  induction x with
  | nil => simp at h
  | cons a r ih =>
    cases hp : p a
    · exact ⟨a, by simp [hp], hp⟩
    · simp only [List.dropWhile_cons, hp, if_true] at h ⊢
      exact ih h
theorem run_all (p : Int → Bool) (l : List UInt8) : runLen p l = l.length ↔ ∀ a ∈ l, p (a.toNat : Int) = true := by
  induction l with
  | nil => simp [runLen]
  | cons a r ih =>
    simp only [runLen, List.length_cons, List.mem_cons, forall_eq_or_imp]
    cases p (a.toNat : Int)
    · simp
    · simp [ih]
theorem trim_all (l : List UInt8) : (Lib.trimS l bothT).isEmpty = decide (runLen nameB l = l.length) := by
  have hk : Lib.trimS l bothT = [] ↔ runLen nameB l = l.length := by
    rw [run_all]
    unfold Lib.trimS Lib.trimLeftS
    rw [drop_nil]
    unfold Lib.trimRightS
    constructor
    · intro h
      have h0 : l.reverse.dropWhile (fun c => bothT.contains c) = [] := by
        by_cases e : l.reverse.dropWhile (fun c => bothT.contains c) = []
        · exact e
        · obtain ⟨a, ha, hp⟩ := drop_head _ _ e
          have := h a (by simpa using ha)
          rw [this] at hp; cases hp
      rw [drop_nil] at h0
      intro a ha
      rw [← both_has]; exact h0 a (by simpa using ha)
    · intro h
      have h0 : l.reverse.dropWhile (fun c => bothT.contains c) = [] := by
        rw [drop_nil]; intro a ha; rw [both_has]; exact h a (by simpa using ha)
      rw [h0]; simp
  rw [Bool.eq_iff_iff]
  simpa using hk
end Lex
end Go.Proofs.YtfhpmnghakhlkaaDoor
