/- How cut texts read as lists of bytes; the ends of the ways through scan.sign. -/
import Derived.Test.YtfhpmnghakhlkaaDoorLex
import Derived.Lib.Strings
import Derived.Lib.IndexBytes
import Derived.WideShapes
namespace Go.Proofs.YtfhpmnghakhlkaaDoor
namespace Lex
open Go

theorem txt_eq (s : ByteArray) (l : List UInt8) (h : s.data.toList = l) : s = ⟨l.toArray⟩ := by
  subst h; rfl
theorem ext_eq (s : ByteArray) (a b : Nat) : s.extract a b = ⟨((s.data.toList.drop a).take (b - a)).toArray⟩ := txt_eq _ _ (Lib.extract_data s a b)
theorem head_eq (s : ByteArray) (b : Nat) : s.extract 0 b = ⟨(s.data.toList.take b).toArray⟩ := by rw [ext_eq]; simp
theorem tail_list (s : ByteArray) (a : Nat) : (s.extract a s.size).data.toList = s.data.toList.drop a := Lib.extract_to_end s a
theorem list_of (s : ByteArray) : s.toList = s.data.toList := ByteArray.toList_eq s
theorem len_of (s : ByteArray) : s.data.toList.length = s.size := by simp
theorem get_of (s : ByteArray) (k : Nat) (h : k < s.size) : s.data.toList = s.data.toList.take k ++ s[k] :: s.data.toList.drop (k + 1) := by
  have hl : k < s.data.toList.length := by simpa using h
  rw [show s[k] = s.data.toList[k] from rfl, ← List.drop_eq_getElem_cons hl, List.take_append_drop]
theorem cons_of (s : ByteArray) (h : 0 < s.size) : s.data.toList = s[0] :: s.data.toList.drop 1 := by simpa using get_of s 0 h

theorem one_yes {c v : Int} (h : (c == v) = true) (hv : oneB v = true) : oneB c = true := by rw [eq_of_beq h]; exact hv
theorem two_yes {l v : List UInt8} (h : (l == v) = true) (hv : twoB v = true) : twoB l = true := by rw [eq_of_beq h]; exact hv
theorem two_no {l : List UInt8} (h0 : (l == [38, 38]) = false) (h1 : (l == [124, 124]) = false) (h2 : (l == [61, 61]) = false) (h3 : (l == [33, 61]) = false) (h4 : (l == [60, 61]) = false) (h5 : (l == [62, 61]) = false) : twoB l = false := by simp only [twoB, h0, h1, h2, h3, h4, h5, Bool.or_self]
theorem one_no {c : Int} (h0 : (c == 43) = false) (h1 : (c == 45) = false) (h2 : (c == 42) = false) (h3 : (c == 47) = false) (h4 : (c == 37) = false) (h5 : (c == 60) = false) (h6 : (c == 62) = false) (h7 : (c == 33) = false) (h8 : (c == 40) = false) (h9 : (c == 41) = false) (h10 : (c == 123) = false) (h11 : (c == 125) = false) (h12 : (c == 44) = false) (h13 : (c == 59) = false) (h14 : (c == 58) = false) (h15 : (c == 61) = false) : oneB c = false := by simp only [oneB, h0, h1, h2, h3, h4, h5, h6, h7, h8, h9, h10, h11, h12, h13, h14, h15, Bool.or_self]
theorem no_two {b : Bool} (h : b = true) (k : b = false) : False := by rw [h] at k; cases k
theorem take2 (s : ByteArray) : (s.extract 0 2).toList = s.data.toList.take 2 := by rw [list_of, Lib.extract_data]; simp
theorem two_short (s : ByteArray) (h : ¬ 1 < s.size) : twoB (s.extract 0 2).toList = false := by
  rw [take2]
  have hl : s.data.toList.length ≤ 1 := by rw [len_of]; omega
  match s.data.toList, hl with
  | [], _ => rfl
  | [a], _ => simp [twoB]

theorem c0_of (s : ByteArray) (h : 0 < s.size) : c0 s.data.toList = ((s[0].toNat : Nat) : Int) := by
  rw [cons_of s h]; rfl
theorem sign_two {s : ByteArray} (h : twoB (s.extract 0 2).toList = true) : Ending.returned (.string (s.extract 0 2)) = .returned (.string ⟨(signF s.data.toList).toArray⟩) := by
  rw [take2] at h
  rw [head_eq]; unfold signF; rw [if_pos h]
theorem sign_one {s : ByteArray} (h0 : 0 < s.size) (h2 : twoB (s.extract 0 2).toList = false) (h : oneB ((s[0].toNat : Nat) : Int) = true) : Ending.returned (.string (s.extract 0 1)) = .returned (.string ⟨(signF s.data.toList).toArray⟩) := by
  rw [take2] at h2
  rw [head_eq]; unfold signF; rw [if_neg (by simp [h2]), c0_of s h0, if_pos h]
theorem sign_no {s : ByteArray} (h0 : 0 < s.size) (h2 : twoB (s.extract 0 2).toList = false) (h : oneB ((s[0].toNat : Nat) : Int) = false) : Ending.returned (.string ⟨#[]⟩) = .returned (.string ⟨(signF s.data.toList).toArray⟩) := by
  rw [take2] at h2
  unfold signF; rw [if_neg (by simp [h2]), c0_of s h0, if_neg (by simp [h])]
end Lex
end Go.Proofs.YtfhpmnghakhlkaaDoor
