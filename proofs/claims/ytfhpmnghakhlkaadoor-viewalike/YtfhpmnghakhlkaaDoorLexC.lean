/- What the readers of a token hand back, way by way. -/
import Derived.Test.YtfhpmnghakhlkaaDoorLexB
namespace Go.Proofs.YtfhpmnghakhlkaaDoor
namespace Lex
open Go

/- What a reader of a token hands back. -/
def Tri (r : Int × List UInt8 × Int) : Ending := .returned (.tuple #[.int .i64 r.1, .string ⟨r.2.1.toArray⟩, .int .i64 r.2.2])
theorem tri_no {r : Int × List UInt8 × Int} {c : Int} (h : r = (0, [], c)) : Ending.returned (.tuple #[.int .i64 0, .string ⟨#[]⟩, .int .i64 c]) = Tri r := by rw [h]; rfl
theorem tri_yes {r : Int × List UInt8 × Int} {s : ByteArray} {k : Int} (h : r = (k, s.data.toList, 0)) : Ending.returned (.tuple #[.int .i64 k, .string s, .int .i64 0]) = Tri r := by rw [h]; rfl
theorem letters_many {s : ByteArray} (h : 12 < s.size) : lettersF s.data.toList = (0, [], 2) := by unfold lettersF; rw [if_pos (by rw [len_of]; exact h)]
theorem letters_word {s : ByteArray} (h : ¬ 12 < s.size) (hw : wordB s.toList = true) : lettersF s.data.toList = (3, s.data.toList, 0) := by
  rw [list_of] at hw; unfold lettersF; rw [if_neg (by rw [len_of]; exact h), if_pos hw]
theorem letters_name {s : ByteArray} (h : ¬ 12 < s.size) (hw : wordB s.toList = false) : lettersF s.data.toList = (1, s.data.toList, 0) := by
  rw [list_of] at hw; unfold lettersF; rw [if_neg (by rw [len_of]; exact h), if_neg (by simp [hw])]
theorem head_of (s : ByteArray) (h : 0 < s.size) : s.data.toList.head? = some s[0] := by rw [cons_of s h]; rfl
theorem digits_many {s : ByteArray} (h : 9 < s.size) : digitsF s.data.toList = (0, [], 3) := by unfold digitsF; rw [if_pos (.inl (by rw [len_of]; exact h))]
theorem digits_nought {s : ByteArray} (h : 1 < s.size) (hc : (((s[0].toNat : Nat) : Int) == 48) = true) : digitsF s.data.toList = (0, [], 3) := by
  unfold digitsF
  have h48 : s[0] = 48 := UInt8.toNat_inj.1 (by have := eq_of_beq hc; simp; omega)
  rw [if_pos (.inr ⟨by rw [len_of]; exact h, by rw [head_of s (by omega), h48]⟩)]
theorem digits_other {s : ByteArray} (h9 : ¬ 9 < s.size) (h : 1 < s.size) (hc : (((s[0].toNat : Nat) : Int) == 48) = false) : digitsF s.data.toList = (2, s.data.toList, 0) := by
  unfold digitsF
  rw [if_neg]
  rw [len_of, head_of s (by omega)]
  rintro (h' | ⟨_, h'⟩)
  · exact h9 h'
  · simp at h'; simp [h'] at hc
theorem digits_one {s : ByteArray} (h : ¬ 1 < s.size) : digitsF s.data.toList = (2, s.data.toList, 0) := by
  unfold digitsF
  rw [if_neg]
  rw [len_of]
  rintro (h' | ⟨h', _⟩) <;> omega
theorem first_alpha {l : List UInt8} (h : alphaB (c0 l) = true) : firstF l = lettersF (l.take (runLen nameB l)) := by unfold firstF; rw [if_pos h]
theorem first_digit {l : List UInt8} (h : alphaB (c0 l) = false) (hd : digitB (c0 l) = true) : firstF l = digitsF (l.take (runLen digitB l)) := by unfold firstF; rw [if_neg (by simp [h]), if_pos hd]
theorem first_none {l : List UInt8} (h : alphaB (c0 l) = false) (hd : digitB (c0 l) = false) (hs : signF l = []) : firstF l = (0, [], 1) := by
  unfold firstF; rw [if_neg (by simp [h]), if_neg (by simp [hd]), hs]; rfl
theorem first_sign {l : List UInt8} (h : alphaB (c0 l) = false) (hd : digitB (c0 l) = false) (hs : ¬ signF l = []) : firstF l = (4, signF l, 0) := by
  unfold firstF; rw [if_neg (by simp [h]), if_neg (by simp [hd]), if_neg (by simpa using hs)]

theorem run_pos (p : Int → Bool) (s : ByteArray) (h : 0 < s.size) (hp : p ((s[0].toNat : Nat) : Int) = true) : 0 < runLen p s.data.toList := by
  rw [cons_of s h]; simp [runLen, hp]
end Lex
end Go.Proofs.YtfhpmnghakhlkaaDoor
