/- Contracts of the small functions of package scan: what sort of byte it is, and how far a run of such bytes goes. -/
import Derived.Test.YtilapnfdijjobaaDoorChecked
import Derived.Test.YtilapnfdijjobaaDoorLex
import Derived.WalkKit
import Derived.ProofKit
namespace Go.Proofs.YtilapnfdijjobaaDoor
open Go.RowKit

theorem blank_any (c : Int) (w : World) : Calls Tryd.prog 64 #[.int .u8 c] w fun e w' => e = .returned (.bool (Lex.blankB c)) ∧ w' = w := by
  by_cases h1 : c = 32
  · subst h1
    go_enter Tryd.func64, Tryd.ntmps64
    go_wp2
    go_ret
    exact ⟨rfl, rfl⟩
  · by_cases h2 : c = 9
    · subst h2
      go_enter Tryd.func64, Tryd.ntmps64
      go_wp2
      go_ret
      exact ⟨rfl, rfl⟩
    · have e1 : (c == 32) = false := by simp [h1]
      have e2 : (c == 9) = false := by simp [h2]
      have e3 : Lex.blankB c = (c == 10) := by simp [Lex.blankB, e1, e2]
      rw [e3]
      go_enter Tryd.func64, Tryd.ntmps64
      go_wp2
      go_ret
      exact ⟨rfl, rfl⟩

theorem line_any (c : Int) (w : World) : Calls Tryd.prog 65 #[.int .u8 c] w fun e w' => e = .returned (.bool (Lex.lineB c)) ∧ w' = w := by
  go_enter Tryd.func65, Tryd.ntmps65
  go_wp2
  go_ret
  exact ⟨rfl, rfl⟩

theorem digit_any (c : Int) (w : World) : Calls Tryd.prog 59 #[.int .u8 c] w fun e w' => e = .returned (.bool (Lex.digitB c)) ∧ w' = w := by
  by_cases h1 : 48 ≤ c
  · have e3 : Lex.digitB c = decide (c ≤ 57) := by simp [Lex.digitB, h1]
    rw [e3]
    go_enter Tryd.func59, Tryd.ntmps59
    go_wp2
    go_ret
    exact ⟨rfl, rfl⟩
  · have e3 : Lex.digitB c = false := by simp [Lex.digitB, h1]
    have e1 : decide (48 ≤ c) = false := by simp [h1]
    rw [e3]
    go_enter Tryd.func59, Tryd.ntmps59
    go_wp2
    go_ret
    exact ⟨rfl, rfl⟩

theorem alpha_any (c : Int) (w : World) : Calls Tryd.prog 35 #[.int .u8 c] w fun e w' => e = .returned (.bool (Lex.alphaB c)) ∧ w' = w := by
  by_cases h1 : 97 ≤ c
  · by_cases h2 : c ≤ 122
    · have e3 : Lex.alphaB c = true := by simp [Lex.alphaB]; omega
      rw [e3]
      go_enter Tryd.func35, Tryd.ntmps35
      go_wp2
      go_ret
      exact ⟨rfl, rfl⟩
    · have e3 : Lex.alphaB c = false := by simp [Lex.alphaB]; omega
      have e4 : (c == 95) = false := by simp; omega
      have e5 : ¬ c ≤ 90 := by omega
      have e6 : 65 ≤ c := by omega
      rw [e3]
      go_enter Tryd.func35, Tryd.ntmps35
      go_wp2
      go_ret
      exact ⟨rfl, rfl⟩
  · by_cases h3 : 65 ≤ c
    · by_cases h4 : c ≤ 90
      · have e3 : Lex.alphaB c = true := by simp [Lex.alphaB]; omega
        rw [e3]
        go_enter Tryd.func35, Tryd.ntmps35
        go_wp2
        go_ret
        exact ⟨rfl, rfl⟩
      · have e3 : Lex.alphaB c = (c == 95) := by rw [Bool.eq_iff_iff]; simp [Lex.alphaB]; omega
        rw [e3]
        go_enter Tryd.func35, Tryd.ntmps35
        go_wp2
        go_ret
        exact ⟨rfl, rfl⟩
    · have e3 : Lex.alphaB c = false := by simp [Lex.alphaB]; omega
      have e4 : (c == 95) = false := by simp; omega
      rw [e3]
      go_enter Tryd.func35, Tryd.ntmps35
      go_wp2
      go_ret
      exact ⟨rfl, rfl⟩

theorem name_any (c : Int) (w : World) : Calls Tryd.prog 37 #[.int .u8 c] w fun e w' => e = .returned (.bool (Lex.nameB c)) ∧ w' = w := by
  cases h : Lex.alphaB c
  · have e3 : Lex.nameB c = Lex.digitB c := by simp [Lex.nameB, h]
    rw [e3]
    go_enter Tryd.func37, Tryd.ntmps37
    go_wp2_with (first | (go_at_call 35; refine (alpha_any _ _).mono ?_; rintro e w' ⟨rfl, rfl⟩) | (go_at_call 59; refine (digit_any _ _).mono ?_; rintro e w' ⟨rfl, rfl⟩))
    go_ret
    exact ⟨rfl, rfl⟩
  · have e3 : Lex.nameB c = true := by simp [Lex.nameB, h]
    rw [e3]
    go_enter Tryd.func37, Tryd.ntmps37
    go_wp2_with (first | (go_at_call 35; refine (alpha_any _ _).mono ?_; rintro e w' ⟨rfl, rfl⟩) | (go_at_call 59; refine (digit_any _ _).mono ?_; rintro e w' ⟨rfl, rfl⟩))
    go_ret
    exact ⟨rfl, rfl⟩

end Go.Proofs.YtilapnfdijjobaaDoor
