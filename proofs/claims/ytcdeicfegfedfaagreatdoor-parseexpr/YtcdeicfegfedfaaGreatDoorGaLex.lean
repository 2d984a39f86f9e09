/- Plain functions on lists of bytes: how a text is read as tokens. Nothing of the program is named here. How cut texts read as lists of bytes; the ends of the ways through scan.sign. What the readers of a token hand back, way by way. One step of the reader, and what a whole text is read as. What a whole text is read as: the tokens, or an error and its place. Tokens put together with a blank between each two are read as the same tokens. -/
import Derived.WalkKit
import Derived.Lib.Strings
import Derived.Lib.IndexBytes
import Derived.WideShapes
namespace Go.Proofs.YtcdeicfegfedfaaGreatDoor
namespace Lex

def blankB (c : Int) : Bool := c == 32 || c == 9 || c == 10
def lineB (c : Int) : Bool := c != 10
def digitB (c : Int) : Bool := decide (48 ≤ c ∧ c ≤ 57)
def alphaB (c : Int) : Bool := decide ((97 ≤ c ∧ c ≤ 122) ∨ (65 ≤ c ∧ c ≤ 90) ∨ c = 95)
def nameB (c : Int) : Bool := alphaB c || digitB c

def runLen (p : Int → Bool) : List UInt8 → Nat
  | [] => 0
  | c :: r => if p (c.toNat : Int) then runLen p r + 1 else 0

theorem runLen_le (p : Int → Bool) (l : List UInt8) : runLen p l ≤ l.length := by
  induction l with
  | nil => simp [runLen]
  | cons c r ih => simp only [runLen, List.length_cons]; split <;> omega

theorem runLen_drop (p : Int → Bool) (l : List UInt8) (k : Nat) (h : k < l.length) :
    runLen p (l.drop k) = if p ((l[k].toNat : Nat) : Int) then runLen p (l.drop (k + 1)) + 1 else 0 := by
  rw [List.drop_eq_getElem_cons h]; rfl

theorem runLen_end (p : Int → Bool) (l : List UInt8) (k : Nat) (h : l.length ≤ k) : runLen p (l.drop k) = 0 := by
  rw [List.drop_of_length_le h]; rfl

theorem run_start (p : Int → Bool) (s : ByteArray) : RowKit.Hid (runLen p s.data.toList = 0 + runLen p (s.data.toList.drop 0)) := by
  show _ = _; simp
theorem run_yes (p : Int → Bool) (s : ByteArray) (k : Nat) (h : k < s.size) (hp : p ((s[k].toNat : Nat) : Int) = true) (H : RowKit.Hid (runLen p s.data.toList = k + runLen p (s.data.toList.drop k))) :
    RowKit.Hid (runLen p s.data.toList = (k + 1) + runLen p (s.data.toList.drop (k + 1))) := by
  have hl : k < s.data.toList.length := by simpa using h
  have hc := runLen_drop p s.data.toList k hl
  have e0 : s.data.toList[k]'hl = s[k] := rfl
  rw [e0, hp, if_pos rfl] at hc
  have := H.out; show _ = _; omega
theorem run_no (p : Int → Bool) (s : ByteArray) (k : Nat) (h : k < s.size) (hp : p ((s[k].toNat : Nat) : Int) = false) (H : RowKit.Hid (runLen p s.data.toList = k + runLen p (s.data.toList.drop k))) :
    RowKit.Hid (runLen p s.data.toList = k) := by
  have hl : k < s.data.toList.length := by simpa using h
  have hc := runLen_drop p s.data.toList k hl
  have e0 : s.data.toList[k]'hl = s[k] := rfl
  rw [e0, hp, if_neg (by simp)] at hc
  have := H.out; show _ = _; omega
theorem run_stop (p : Int → Bool) (s : ByteArray) (k : Nat) (h : s.size ≤ k) (H : RowKit.Hid (runLen p s.data.toList = k + runLen p (s.data.toList.drop k))) :
    RowKit.Hid (runLen p s.data.toList = k) := by
  have hc := runLen_end p s.data.toList k (by simpa using h)
  have := H.out; show _ = _; omega

def wordB (l : List UInt8) : Bool := l == [99, 104, 105, 101, 102] || l == [97, 99, 116, 115] || l == [105, 110] || l == [111, 117, 116] || l == [112, 114, 111, 99] || l == [98, 101, 103, 105, 110] || l == [102, 111, 114] || l == [118, 97, 114] || l == [105, 102] || l == [101, 108, 115, 101] || l == [119, 104, 105, 108, 101] || l == [115, 101, 110, 100] || l == [116, 97, 107, 101] || l == [100, 111] || l == [114, 101, 116, 117, 114, 110] || l == [114, 101, 108, 101, 97, 115, 101] || l == [116, 111] || l == [105, 110, 116] || l == [98, 111, 111, 108] || l == [116, 114, 117, 101] || l == [102, 97, 108, 115, 101]
theorem word_yes {l v : List UInt8} (h : (l == v) = true) (hv : wordB v = true) : wordB l = true := by rw [eq_of_beq h]; exact hv

/- A kind, a text, an error: what the letters, the digits or the sign at a text's head are read as. -/
def lettersF (l : List UInt8) : Int × List UInt8 × Int := if 12 < l.length then (0, [], 2) else if wordB l then (3, l, 0) else (1, l, 0)
def digitsF (l : List UInt8) : Int × List UInt8 × Int := if 9 < l.length ∨ (1 < l.length ∧ l.head? = some 48) then (0, [], 3) else (2, l, 0)
def twoB (l : List UInt8) : Bool := l == [38, 38] || l == [124, 124] || l == [61, 61] || l == [33, 61] || l == [60, 61] || l == [62, 61]
def oneB (c : Int) : Bool := c == 43 || c == 45 || c == 42 || c == 47 || c == 37 || c == 60 || c == 62 || c == 33 || c == 40 || c == 41 || c == 123 || c == 125 || c == 44 || c == 59 || c == 58 || c == 61
def c0 (l : List UInt8) : Int := ((l.headD 0).toNat : Int)
def signF (l : List UInt8) : List UInt8 := if twoB (l.take 2) then l.take 2 else if oneB (c0 l) then l.take 1 else []
def firstF (l : List UInt8) : Int × List UInt8 × Int :=
  if alphaB (c0 l) then lettersF (l.take (runLen nameB l)) else if digitB (c0 l) then digitsF (l.take (runLen digitB l)) else if (signF l).isEmpty then (0, [], 1) else (4, signF l, 0)

/- How many bytes ahead of the first token only part tokens; true: within a note. -/
def gapF : Bool → List UInt8 → Nat
  | _, [] => 0
  | true, c :: r => if lineB (c.toNat : Int) then gapF true r + 1 else gapF false r + 1
  | false, c :: r => if blankB (c.toNat : Int) then gapF false r + 1 else if ((c.toNat : Int) == 35) then gapF true r + 1 else 0

theorem gap_note (l : List UInt8) : gapF true l = runLen lineB l + gapF false (l.drop (runLen lineB l)) := by
  induction l with
  | nil => rfl
  | cons c r ih =>
    simp only [gapF, runLen]
    cases h : lineB (c.toNat : Int)
    · have hb : blankB (c.toNat : Int) = true := by simp [lineB] at h; simp [blankB, h]
      simp [gapF, hb]
    · simp [ih]; omega
theorem gap_le (b : Bool) (l : List UInt8) : gapF b l ≤ l.length := by
  induction l generalizing b with
  | nil => cases b <;> simp [gapF]
  | cons c r ih =>
    have h1 := ih true; have h2 := ih false
    cases b <;> simp only [gapF, List.length_cons] <;> (repeat' split) <;> omega
theorem gap_blank (l : List UInt8) (k : Nat) (h : k < l.length) (hb : blankB ((l[k].toNat : Nat) : Int) = true) : gapF false (l.drop k) = gapF false (l.drop (k + 1)) + 1 := by
  rw [List.drop_eq_getElem_cons h]; simp only [gapF, hb, if_true]
theorem gap_hash (l : List UInt8) (k : Nat) (h : k < l.length) (hb : blankB ((l[k].toNat : Nat) : Int) = false) (hc : (((l[k].toNat : Nat) : Int) == 35) = true) :
    gapF false (l.drop k) = runLen lineB (l.drop k) + gapF false (l.drop (k + runLen lineB (l.drop k))) := by
  rw [← List.drop_drop, List.drop_eq_getElem_cons h]
  have hl : lineB ((l[k].toNat : Nat) : Int) = true := by rw [eq_of_beq hc]; rfl
  simp only [gapF, hb, hc, if_true, runLen, hl, gap_note (l.drop (k + 1)), List.drop_succ_cons]
  simp
  omega
theorem gap_stop (l : List UInt8) (k : Nat) (h : k < l.length) (hb : blankB ((l[k].toNat : Nat) : Int) = false) (hc : (((l[k].toNat : Nat) : Int) == 35) = false) : gapF false (l.drop k) = 0 := by
  rw [List.drop_eq_getElem_cons h]; simp [gapF, hb, hc]
theorem gap_end (l : List UInt8) (k : Nat) (h : l.length ≤ k) : gapF false (l.drop k) = 0 := by
  rw [List.drop_of_length_le h]; rfl

end Lex
end Go.Proofs.YtcdeicfegfedfaaGreatDoor

namespace Go.Proofs.YtcdeicfegfedfaaGreatDoor
namespace Lex
open Go

theorem txt_eq (s : ByteArray) (l : List UInt8) (h : s.data.toList = l) : s = ⟨l.toArray⟩ := by
  subst h; rfl
theorem ext_eq (s : ByteArray) (a b : Nat) : s.extract a b = ⟨((s.data.toList.drop a).take (b - a)).toArray⟩ := txt_eq _ _ (Lib.extract_data s a b)
theorem head_eq (s : ByteArray) (b : Nat) : s.extract 0 b = ⟨(s.data.toList.take b).toArray⟩ := by rw [ext_eq]; simp
theorem tail_list (s : ByteArray) (a : Nat) : (s.extract a s.size).data.toList = s.data.toList.drop a := Lib.extract_to_end s a
theorem list_of (s : ByteArray) : s.toList = s.data.toList := ByteArray.toList_eq s
theorem len_of (s : ByteArray) : s.data.toList.length = s.size := by simp
theorem get_of (s : ByteArray) (k : Nat) (h : k < s.size) : s.data.toList = s.data.toList.take k ++ s[k] :: s.data.toList.drop (k + 1) := by
  have hl : k < s.data.toList.length := by simpa using h
  rw [show s[k] = s.data.toList[k] from rfl, ← List.drop_eq_getElem_cons hl, List.take_append_drop]
theorem cons_of (s : ByteArray) (h : 0 < s.size) : s.data.toList = s[0] :: s.data.toList.drop 1 := by simpa using get_of s 0 h

theorem one_yes {c v : Int} (h : (c == v) = true) (hv : oneB v = true) : oneB c = true := by rw [eq_of_beq h]; exact hv
theorem two_yes {l v : List UInt8} (h : (l == v) = true) (hv : twoB v = true) : twoB l = true := by rw [eq_of_beq h]; exact hv
theorem two_no {l : List UInt8} (h0 : (l == [38, 38]) = false) (h1 : (l == [124, 124]) = false) (h2 : (l == [61, 61]) = false) (h3 : (l == [33, 61]) = false) (h4 : (l == [60, 61]) = false) (h5 : (l == [62, 61]) = false) : twoB l = false := by simp only [twoB, h0, h1, h2, h3, h4, h5, Bool.or_self]
theorem one_no {c : Int} (h0 : (c == 43) = false) (h1 : (c == 45) = false) (h2 : (c == 42) = false) (h3 : (c == 47) = false) (h4 : (c == 37) = false) (h5 : (c == 60) = false) (h6 : (c == 62) = false) (h7 : (c == 33) = false) (h8 : (c == 40) = false) (h9 : (c == 41) = false) (h10 : (c == 123) = false) (h11 : (c == 125) = false) (h12 : (c == 44) = false) (h13 : (c == 59) = false) (h14 : (c == 58) = false) (h15 : (c == 61) = false) : oneB c = false := by simp only [oneB, h0, h1, h2, h3, h4, h5, h6, h7, h8, h9, h10, h11, h12, h13, h14, h15, Bool.or_self]
theorem no_two {b : Bool} (h : b = true) (k : b = false) : False := by rw [h] at k; cases k
theorem take2 (s : ByteArray) : (s.extract 0 2).toList = s.data.toList.take 2 := by rw [list_of, Lib.extract_data]; simp
theorem two_short (s : ByteArray) (h : ¬ 1 < s.size) : twoB (s.extract 0 2).toList = false := by
  rw [take2]
  have hl : s.data.toList.length ≤ 1 := by rw [len_of]; omega
  match s.data.toList, hl with
  | [], _ => rfl
  | [a], _ => simp [twoB]

theorem c0_of (s : ByteArray) (h : 0 < s.size) : c0 s.data.toList = ((s[0].toNat : Nat) : Int) := by
  rw [cons_of s h]; rfl
theorem sign_two {s : ByteArray} (h : twoB (s.extract 0 2).toList = true) : Ending.returned (.string (s.extract 0 2)) = .returned (.string ⟨(signF s.data.toList).toArray⟩) := by
  rw [take2] at h
  rw [head_eq]; unfold signF; rw [if_pos h]
theorem sign_one {s : ByteArray} (h0 : 0 < s.size) (h2 : twoB (s.extract 0 2).toList = false) (h : oneB ((s[0].toNat : Nat) : Int) = true) : Ending.returned (.string (s.extract 0 1)) = .returned (.string ⟨(signF s.data.toList).toArray⟩) := by
  rw [take2] at h2
  rw [head_eq]; unfold signF; rw [if_neg (by simp [h2]), c0_of s h0, if_pos h]
theorem sign_no {s : ByteArray} (h0 : 0 < s.size) (h2 : twoB (s.extract 0 2).toList = false) (h : oneB ((s[0].toNat : Nat) : Int) = false) : Ending.returned (.string ⟨#[]⟩) = .returned (.string ⟨(signF s.data.toList).toArray⟩) := by
  rw [take2] at h2
  unfold signF; rw [if_neg (by simp [h2]), c0_of s h0, if_neg (by simp [h])]
end Lex
end Go.Proofs.YtcdeicfegfedfaaGreatDoor

namespace Go.Proofs.YtcdeicfegfedfaaGreatDoor
namespace Lex
open Go

/- What a reader of a token hands back. -/
def Tri (r : Int × List UInt8 × Int) : Ending := .returned (.tuple #[.int .i64 r.1, .string ⟨r.2.1.toArray⟩, .int .i64 r.2.2])
theorem tri_no {r : Int × List UInt8 × Int} {c : Int} (h : r = (0, [], c)) : Ending.returned (.tuple #[.int .i64 0, .string ⟨#[]⟩, .int .i64 c]) = Tri r := by rw [h]; rfl
theorem tri_yes {r : Int × List UInt8 × Int} {s : ByteArray} {k : Int} (h : r = (k, s.data.toList, 0)) : Ending.returned (.tuple #[.int .i64 k, .string s, .int .i64 0]) = Tri r := by rw [h]; rfl
theorem letters_many {s : ByteArray} (h : 12 < s.size) : lettersF s.data.toList = (0, [], 2) := by unfold lettersF; rw [if_pos (by rw [len_of]; exact h)]
theorem letters_word {s : ByteArray} (h : ¬ 12 < s.size) (hw : wordB s.toList = true) : lettersF s.data.toList = (3, s.data.toList, 0) := by
  rw [list_of] at hw; unfold lettersF; rw [if_neg (by rw [len_of]; exact h), if_pos hw]
theorem letters_name {s : ByteArray} (h : ¬ 12 < s.size) (hw : wordB s.toList = false) : lettersF s.data.toList = (1, s.data.toList, 0) := by
  rw [list_of] at hw; unfold lettersF; rw [if_neg (by rw [len_of]; exact h), if_neg (by simp [hw])]
theorem head_of (s : ByteArray) (h : 0 < s.size) : s.data.toList.head? = some s[0] := by rw [cons_of s h]; rfl
theorem digits_many {s : ByteArray} (h : 9 < s.size) : digitsF s.data.toList = (0, [], 3) := by unfold digitsF; rw [if_pos (.inl (by rw [len_of]; exact h))]
theorem digits_nought {s : ByteArray} (h : 1 < s.size) (hc : (((s[0].toNat : Nat) : Int) == 48) = true) : digitsF s.data.toList = (0, [], 3) := by
  unfold digitsF
  have h48 : s[0] = 48 := UInt8.toNat_inj.1 (by have := eq_of_beq hc; simp; omega)
  rw [if_pos (.inr ⟨by rw [len_of]; exact h, by rw [head_of s (by omega), h48]⟩)]
theorem digits_other {s : ByteArray} (h9 : ¬ 9 < s.size) (h : 1 < s.size) (hc : (((s[0].toNat : Nat) : Int) == 48) = false) : digitsF s.data.toList = (2, s.data.toList, 0) := by
  unfold digitsF
  rw [if_neg]
  rw [len_of, head_of s (by omega)]
  rintro (h' | ⟨_, h'⟩)
  · exact h9 h'
  · simp at h'; simp [h'] at hc
theorem digits_one {s : ByteArray} (h : ¬ 1 < s.size) : digitsF s.data.toList = (2, s.data.toList, 0) := by
  unfold digitsF
  rw [if_neg]
  rw [len_of]
  rintro (h' | ⟨h', _⟩) <;> omega
theorem first_alpha {l : List UInt8} (h : alphaB (c0 l) = true) : firstF l = lettersF (l.take (runLen nameB l)) := by unfold firstF; rw [if_pos h]
theorem first_digit {l : List UInt8} (h : alphaB (c0 l) = false) (hd : digitB (c0 l) = true) : firstF l = digitsF (l.take (runLen digitB l)) := by unfold firstF; rw [if_neg (by simp [h]), if_pos hd]
theorem first_none {l : List UInt8} (h : alphaB (c0 l) = false) (hd : digitB (c0 l) = false) (hs : signF l = []) : firstF l = (0, [], 1) := by
  unfold firstF; rw [if_neg (by simp [h]), if_neg (by simp [hd]), hs]; rfl
theorem first_sign {l : List UInt8} (h : alphaB (c0 l) = false) (hd : digitB (c0 l) = false) (hs : ¬ signF l = []) : firstF l = (4, signF l, 0) := by
  unfold firstF; rw [if_neg (by simp [h]), if_neg (by simp [hd]), if_neg (by simpa using hs)]

theorem run_pos (p : Int → Bool) (s : ByteArray) (h : 0 < s.size) (hp : p ((s[0].toNat : Nat) : Int) = true) : 0 < runLen p s.data.toList := by
  rw [cons_of s h]; simp [runLen, hp]
end Lex
end Go.Proofs.YtcdeicfegfedfaaGreatDoor

namespace Go.Proofs.YtcdeicfegfedfaaGreatDoor
namespace Lex
open Go

theorem run_pos' (p : Int → Bool) (l : List UInt8) (h : p (c0 l) = true) (h0 : l ≠ []) : 0 < runLen p l := by
  match l, h0 with
  | c :: r, _ => simp only [c0, List.headD_cons] at h; simp [runLen, h]
theorem take_self {l : List UInt8} {n : Nat} (h : n ≤ l.length) : l.take n = l.take (l.take n).length := by
  rw [List.length_take, Nat.min_eq_left h]

theorem letters_ok {l t : List UInt8} {k : Int} (h : lettersF l = (k, t, 0)) : k ≠ 0 ∧ t = l := by
  unfold lettersF at h
  split at h
  · simp at h
  · split at h <;> · simp only [Prod.mk.injEq] at h; exact ⟨by omega, h.2.1.symm⟩
theorem digits_ok {l t : List UInt8} {k : Int} (h : digitsF l = (k, t, 0)) : k ≠ 0 ∧ t = l := by
  unfold digitsF at h
  split at h
  · simp at h
  · simp only [Prod.mk.injEq] at h; exact ⟨by omega, h.2.1.symm⟩
theorem two_len {l : List UInt8} (h : twoB (l.take 2) = true) : 2 ≤ l.length := by
  match l with
  | [] => simp [twoB] at h
  | [a] => simp [twoB] at h
  | a :: b :: r => simp
theorem one_len {l : List UInt8} (h : oneB (c0 l) = true) : 1 ≤ l.length := by
  match l with
  | [] => exact absurd h (by decide)
  | a :: r => simp
theorem sign_ok (l : List UInt8) : signF l = l.take (signF l).length := by
  unfold signF
  split
  · rename_i h; exact take_self (two_len h)
  · split
    · rename_i h; exact take_self (one_len h)
    · simp
theorem first_ok {l t : List UInt8} {k : Int} (h : firstF l = (k, t, 0)) (h0 : l ≠ []) : k ≠ 0 ∧ 0 < t.length ∧ t = l.take t.length ∧ t.length ≤ l.length := by
  have key : k ≠ 0 ∧ 0 < t.length ∧ t = l.take t.length := by
    unfold firstF at h
    split at h
    · rename_i ha
      obtain ⟨hk, ht⟩ := letters_ok h
      have hp := run_pos' nameB l (by simp [nameB, ha]) h0
      have hl := runLen_le nameB l
      refine ⟨hk, by rw [ht, List.length_take]; omega, ?_⟩
      rw [ht]; exact take_self hl
    · split at h
      · rename_i ha hd
        obtain ⟨hk, ht⟩ := digits_ok h
        have hp := run_pos' digitB l hd h0
        have hl := runLen_le digitB l
        refine ⟨hk, by rw [ht, List.length_take]; omega, ?_⟩
        rw [ht]; exact take_self hl
      · split at h
        · simp at h
        · rename_i ha hd he
          simp only [Prod.mk.injEq] at h
          obtain ⟨hk, ht, _⟩ := h
          subst ht
          refine ⟨by omega, ?_, sign_ok l⟩
          cases hh : signF l with
          | nil => simp [hh] at he
          | cons a r => simp
  refine ⟨key.1, key.2.1, key.2.2, ?_⟩
  have h3 := congrArg List.length key.2.2
  rw [List.length_take] at h3
  omega

/- From place p: the token's kind, place, text, the error, and the place behind it. -/
def stepF (l : List UInt8) (p : Nat) : Int × Nat × List UInt8 × Int × Nat :=
  if p + gapF false (l.drop p) = l.length then (0, l.length, [], 0, l.length) else
    if (firstF (l.drop (p + gapF false (l.drop p)))).2.2 = 0 then ((firstF (l.drop (p + gapF false (l.drop p)))).1, p + gapF false (l.drop p), (firstF (l.drop (p + gapF false (l.drop p)))).2.1, 0, p + gapF false (l.drop p) + (firstF (l.drop (p + gapF false (l.drop p)))).2.1.length)
    else (0, p + gapF false (l.drop p), [], (firstF (l.drop (p + gapF false (l.drop p)))).2.2, p + gapF false (l.drop p))
theorem step_end {l : List UInt8} {p q : Nat} (hq : p + gapF false (l.drop p) = q) (h : q = l.length) : stepF l p = (0, q, [], 0, q) := by
  subst hq; unfold stepF; rw [if_pos h, h]
theorem step_tok {l t : List UInt8} {p q : Nat} {k : Int} (hq : p + gapF false (l.drop p) = q) (h : q ≠ l.length) (hf : firstF (l.drop q) = (k, t, 0)) : stepF l p = (k, q, t, 0, q + t.length) := by
  subst hq; unfold stepF; rw [if_neg h, hf]; simp
theorem step_bad {l t : List UInt8} {p q : Nat} {k c : Int} (hq : p + gapF false (l.drop p) = q) (h : q ≠ l.length) (hf : firstF (l.drop q) = (k, t, c)) (hc : c ≠ 0) : stepF l p = (0, q, [], c, q) := by
  subst hq; unfold stepF; rw [if_neg h, hf]; simp [hc]
theorem gap_end_le (l : List UInt8) (p : Nat) (h : p ≤ l.length) : p + gapF false (l.drop p) ≤ l.length := by
  have := gap_le false (l.drop p); rw [List.length_drop] at this; omega

end Lex
end Go.Proofs.YtcdeicfegfedfaaGreatDoor

namespace Go.Proofs.YtcdeicfegfedfaaGreatDoor
namespace Lex
open Go

/- A token: its kind, its place, its text. -/
abbrev Tok := Int × Nat × List UInt8
def scanF (l : List UInt8) : Nat → Nat → List Tok → List Tok × Int × Nat
  | 0, _, _ => ([], 0, 0)
  | f + 1, p, acc =>
    if (stepF l p).2.2.2.1 = 0 then
      if (stepF l p).1 = 0 then (acc, 0, 0)
      else if acc.length = 600 then ([], 2, (stepF l p).2.1)
      else scanF l f (stepF l p).2.2.2.2 (acc ++ [((stepF l p).1, (stepF l p).2.1, (stepF l p).2.2.1)])
    else ([], (stepF l p).2.2.2.1, (stepF l p).2.1)
def scanAll (l : List UInt8) : List Tok × Int × Nat := if 4000 < l.length then ([], 2, 0) else scanF l (l.length + 1) 0 []

theorem scan_many {l : List UInt8} (h : 4000 < l.length) : scanAll l = ([], 2, 0) := by unfold scanAll; rw [if_pos h]
theorem scan_begin {l : List UInt8} (h : ¬ 4000 < l.length) : scanAll l = scanF l (l.length + 1) 0 [] := by unfold scanAll; rw [if_neg h]
theorem scan_end {l t : List UInt8} {f p q n : Nat} {acc : List Tok} (h : stepF l p = (0, q, t, 0, n)) : scanF l (f + 1) p acc = (acc, 0, 0) := by
  simp [scanF, h]
theorem scan_bad {l t : List UInt8} {f p q n : Nat} {k c : Int} {acc : List Tok} (h : stepF l p = (k, q, t, c, n)) (hc : c ≠ 0) : scanF l (f + 1) p acc = ([], c, q) := by
  simp [scanF, h, hc]
theorem scan_full {l t : List UInt8} {f p q n : Nat} {k : Int} {acc : List Tok} (h : stepF l p = (k, q, t, 0, n)) (hk : k ≠ 0) (ha : acc.length = 600) : scanF l (f + 1) p acc = ([], 2, q) := by
  simp [scanF, h, hk, ha]
theorem scan_on {l t : List UInt8} {f p q n : Nat} {k : Int} {acc : List Tok} (h : stepF l p = (k, q, t, 0, n)) (hk : k ≠ 0) (ha : ¬ acc.length = 600) : scanF l (f + 1) p acc = scanF l f n (acc ++ [(k, q, t)]) := by
  simp [scanF, h, hk, ha]

/- The tokens as they lie in memory, three cells each. -/
def cellsOf (l : List Tok) : List Value := l.flatMap fun t => [.int .i64 t.1, .int .i64 (t.2.1 : Int), .string ⟨t.2.2.toArray⟩]
theorem cellsOf_snoc (l : List Tok) (t : Tok) : cellsOf (l ++ [t]) = cellsOf l ++ [.int .i64 t.1, .int .i64 (t.2.1 : Int), .string ⟨t.2.2.toArray⟩] := by simp [cellsOf]
theorem cellsOf_length (l : List Tok) : (cellsOf l).length = l.length * 3 := by
  induction l with
  | nil => rfl
  | cons a r ih => simp only [cellsOf, List.flatMap_cons, List.length_append, List.length_cons, List.length_nil] at ih ⊢; omega
def placeOf (w : World) (b : Nat) : Nat := match w.cell? ⟨b, 0, none⟩ with | some (.int _ n) => n.toNat | _ => 0
theorem placeOf_of {w : World} {b p t : Nat} (h : w.heap[b]? = some (.cells #[.int .i64 (p : Int)] t (0, 0))) : placeOf w b = p := by
  simp [placeOf, World.cell?, h]
end Lex
end Go.Proofs.YtcdeicfegfedfaaGreatDoor

namespace Go.Proofs.YtcdeicfegfedfaaGreatDoor
namespace Lex
open Go

/- A kind and a text that are read as one token, whatever follows behind a blank. -/
def Good (k : Int) (t : List UInt8) : Prop := t ≠ [] ∧ k ≠ 0 ∧ gapF false t = 0 ∧ ∀ r : List UInt8, (r = [] ∨ ∃ r', r = 32 :: r') → firstF (t ++ r) = (k, t, 0)

theorem run_take (p : Int → Bool) (l : List UInt8) : runLen p (l.take (runLen p l)) = runLen p l ∧ ∀ c ∈ l.take (runLen p l), p (c.toNat : Int) = true := by
  induction l with
  | nil => simp [runLen]
  | cons a r ih =>
    simp only [runLen]
    cases h : p (a.toNat : Int)
    · simp [runLen]
    · simp only [if_true, List.take_succ_cons, runLen, h, ih.1, true_and, List.mem_cons]
      rintro c (rfl | hc)
      · exact h
      · exact ih.2 c hc
theorem run_append (p : Int → Bool) (t r : List UInt8) (ht : ∀ c ∈ t, p (c.toNat : Int) = true) (hr : r = [] ∨ ∃ r', r = 32 :: r') (h32 : p 32 = false) : runLen p (t ++ r) = t.length := by
  induction t with
  | nil =>
    rcases hr with rfl | ⟨r', rfl⟩
    · rfl
    · simp [runLen, h32]
  | cons a t ih =>
    simp only [List.cons_append, runLen, ht a (by simp), if_true, List.length_cons]
    rw [ih (fun c hc => ht c (by simp [hc]))]
theorem c0_append {t : List UInt8} (h : t ≠ []) (r : List UInt8) : c0 (t ++ r) = c0 t := by
  match t, h with
  | a :: t, _ => rfl
theorem c0_take {l : List UInt8} {n : Nat} (h : 0 < n) : c0 (l.take n) = c0 l := by
  match l, n, h with
  | [], _, _ => simp
  | a :: l, n + 1, _ => rfl
theorem gap_zero {t : List UInt8} (hb : blankB (c0 t) = false) (hh : (c0 t == 35) = false) : gapF false t = 0 := by
  match t with
  | [] => rfl
  | a :: t =>
    have hb' : blankB ((a.toNat : Nat) : Int) = false := hb
    have hh' : (((a.toNat : Nat) : Int) == 35) = false := hh
    simp only [gapF, hb', hh']
    rfl
theorem alpha_gap {c : Int} (h : alphaB c = true) : blankB c = false ∧ (c == 35) = false := by
  simp [alphaB] at h; simp [blankB]; omega
theorem digit_gap {c : Int} (h : digitB c = true) : blankB c = false ∧ (c == 35) = false := by
  simp [digitB] at h; simp [blankB]; omega
theorem one_gap {c : Int} (h : oneB c = true) : blankB c = false ∧ (c == 35) = false ∧ alphaB c = false ∧ digitB c = false := by
  simp [oneB] at h; simp [blankB, alphaB, digitB]; omega
theorem two_gap {t : List UInt8} (h : twoB t = true) : blankB (c0 t) = false ∧ (c0 t == 35) = false ∧ alphaB (c0 t) = false ∧ digitB (c0 t) = false ∧ t.length = 2 ∧ t ≠ [] := by
  simp only [twoB, Bool.or_eq_true, beq_iff_eq] at h
  rcases h with ((((h | h) | h) | h) | h) | h <;> subst h <;> decide

theorem alpha_good {l : List UInt8} (h0 : l ≠ []) (ha : alphaB (c0 l) = true) {k : Int} (h : lettersF (l.take (runLen nameB l)) = (k, l.take (runLen nameB l), 0)) : Good k (l.take (runLen nameB l)) := by
  have hp := run_pos' nameB l (by simp [nameB, ha]) h0
  have hl := runLen_le nameB l
  have hne : l.take (runLen nameB l) ≠ [] := by
    intro e; have := congrArg List.length e; rw [List.length_take, Nat.min_eq_left hl, List.length_nil] at this; omega
  have hc : c0 (l.take (runLen nameB l)) = c0 l := c0_take hp
  have hg := alpha_gap ha
  refine ⟨hne, (letters_ok h).1, gap_zero (by rw [hc]; exact hg.1) (by rw [hc]; exact hg.2), fun r hr => ?_⟩
  rw [first_alpha (by rw [c0_append hne, hc]; exact ha), run_append nameB _ r (run_take nameB l).2 hr (by decide)]
  simp [h]
theorem digit_good {l : List UInt8} (h0 : l ≠ []) (ha : alphaB (c0 l) = false) (hd : digitB (c0 l) = true) {k : Int} (h : digitsF (l.take (runLen digitB l)) = (k, l.take (runLen digitB l), 0)) : Good k (l.take (runLen digitB l)) := by
  have hp := run_pos' digitB l hd h0
  have hl := runLen_le digitB l
  have hne : l.take (runLen digitB l) ≠ [] := by
    intro e; have := congrArg List.length e; rw [List.length_take, Nat.min_eq_left hl, List.length_nil] at this; omega
  have hc : c0 (l.take (runLen digitB l)) = c0 l := c0_take hp
  have hg := digit_gap hd
  refine ⟨hne, (digits_ok h).1, gap_zero (by rw [hc]; exact hg.1) (by rw [hc]; exact hg.2), fun r hr => ?_⟩
  rw [first_digit (by rw [c0_append hne, hc]; exact ha) (by rw [c0_append hne, hc]; exact hd), run_append digitB _ r (run_take digitB l).2 hr (by decide)]
  simp [h]
theorem two_good {t : List UInt8} (h : twoB t = true) : Good 4 t := by
  obtain ⟨h1, h2, h3, h4, h5, h6⟩ := two_gap h
  refine ⟨h6, by decide, gap_zero h1 h2, fun r _ => ?_⟩
  have e : (t ++ r).take 2 = t := by rw [List.take_append_of_le_length (by omega), List.take_of_length_le (by omega)]
  have hs : signF (t ++ r) = t := by unfold signF; rw [e, if_pos h]
  rw [first_sign (by rw [c0_append h6]; exact h3) (by rw [c0_append h6]; exact h4) (by rw [hs]; exact h6), hs]
theorem one_good {a : UInt8} (h : oneB ((a.toNat : Nat) : Int) = true) : Good 4 [a] := by
  obtain ⟨h1, h2, h3, h4⟩ := one_gap h
  refine ⟨by simp, by decide, gap_zero h1 h2, fun r hr => ?_⟩
  have ht : twoB (([a] ++ r).take 2) = false := by
    rcases hr with rfl | ⟨r', rfl⟩
    · simp [twoB]
    · simp [twoB]
  have hs : signF ([a] ++ r) = [a] := by
    unfold signF
    rw [ht, if_neg (by simp), if_pos (show oneB (c0 ([a] ++ r)) = true from h)]
    rfl
  rw [first_sign (by rw [c0_append (by simp)]; exact h3) (by rw [c0_append (by simp)]; exact h4) (by rw [hs]; simp), hs]
theorem first_good {l t : List UInt8} {k : Int} (h : firstF l = (k, t, 0)) (h0 : l ≠ []) : Good k t := by
  cases ha : alphaB (c0 l)
  · cases hd : digitB (c0 l)
    · by_cases hs : signF l = []
      · rw [first_none ha hd hs] at h; simp at h
      · rw [first_sign ha hd hs] at h
        simp only [Prod.mk.injEq, and_true] at h
        obtain ⟨rfl, rfl⟩ := h
        by_cases h2 : twoB (l.take 2) = true
        · have e : signF l = l.take 2 := by unfold signF; rw [if_pos h2]
          rw [e]; exact two_good h2
        · by_cases h1 : oneB (c0 l) = true
          · match l, h0 with
            | a :: l', _ =>
              have e : signF (a :: l') = [a] := by unfold signF; rw [if_neg h2, if_pos h1]; rfl
              rw [e]; exact one_good h1
          · exact absurd (by unfold signF; rw [if_neg h2, if_neg h1]) hs
    · rw [first_digit ha hd] at h
      have := (digits_ok h).2
      subst this
      exact digit_good h0 ha hd h
  · rw [first_alpha ha] at h
    have := (letters_ok h).2
    subst this
    exact alpha_good h0 ha h

theorem gap_append {t : List UInt8} (h : t ≠ []) (hg : gapF false t = 0) (r : List UInt8) : gapF false (t ++ r) = 0 := by
  match t, h with
  | a :: t, _ =>
    simp only [gapF] at hg
    split at hg
    · omega
    · split at hg
      · omega
      · rename_i h1 h2
        simp only [List.cons_append, gapF]
        rw [if_neg h1, if_neg h2]

/- Each text behind a blank. -/
def tailG (l : List (Int × List UInt8)) : List UInt8 := l.flatMap fun t => 32 :: t.2
theorem tailG_cons (t : Int × List UInt8) (l : List (Int × List UInt8)) : tailG (t :: l) = 32 :: (t.2 ++ tailG l) := by simp [tailG]
theorem tailG_form (l : List (Int × List UInt8)) : tailG l = [] ∨ ∃ r, tailG l = 32 :: r := by
  cases l with
  | nil => exact .inl rfl
  | cons a r => exact .inr ⟨_, tailG_cons a r⟩

theorem drop_more {J a b : List UInt8} {p : Nat} (h : J.drop p = a ++ b) : J.drop (p + a.length) = b := by
  rw [← List.drop_drop, h]; simp
theorem step_good {J : List UInt8} {p : Nat} {k : Int} {t r : List UInt8} (hg : Good k t) (hr : r = [] ∨ ∃ r', r = 32 :: r') (g : Nat) (hq : gapF false (J.drop p) = g) (hd : J.drop (p + g) = t ++ r) : stepF J p = (k, p + g, t, 0, p + g + t.length) := by
  have hne : p + g ≠ J.length := by
    intro e; rw [e, List.drop_length] at hd; have := congrArg List.length hd; simp at this; have := List.length_pos_iff.2 hg.1; omega
  exact step_tok (by rw [hq]) hne (by rw [hd]; exact hg.2.2.2 r hr)

theorem scan_tail (J : List UInt8) : ∀ (rest : List (Int × List UInt8)) (f p : Nat) (acc : List Tok), J.drop p = tailG rest → p ≤ J.length → (∀ t ∈ rest, Good t.1 t.2) → acc.length + rest.length ≤ 600 → rest.length < f →
    ∃ out, scanF J f p acc = (acc ++ out, 0, 0) ∧ out.map (fun t => (t.1, t.2.2)) = rest := by
  intro rest
  induction rest with
  | nil =>
    intro f p acc hd hp _ _ hf
    obtain ⟨f, rfl⟩ : ∃ f', f = f' + 1 := ⟨f - 1, by omega⟩
    have hl : p = J.length := by have := congrArg List.length hd; simp [tailG] at this; omega
    refine ⟨[], ?_, rfl⟩
    rw [scan_end (step_end (q := p) (by rw [hd]; rfl) hl)]
    simp
  | cons a r ih =>
    intro f p acc hd hp hg hl hf
    obtain ⟨f, rfl⟩ : ∃ f', f = f' + 1 := ⟨f - 1, by omega⟩
    have ga := hg a (by simp)
    have h1 : gapF false (J.drop p) = 1 := by
      rw [hd, tailG_cons]
      simp only [gapF, show blankB (((32 : UInt8).toNat : Nat) : Int) = true from rfl, if_true]
      rw [gap_append ga.1 ga.2.2.1]
    have hd1 : J.drop (p + 1) = a.2 ++ tailG r := drop_more (a := [32]) (by rw [hd, tailG_cons]; rfl)
    have hst := step_good ga (tailG_form r) 1 h1 hd1
    have hd2 := drop_more hd1
    have hle : p + 1 + a.2.length ≤ J.length := by
      have := congrArg List.length hd1; simp at this
      have := List.length_pos_iff.2 ga.1
      omega
    simp only [List.length_cons] at hl hf
    obtain ⟨out, ho, hm⟩ := ih f (p + 1 + a.2.length) (acc ++ [(a.1, p + 1, a.2)]) hd2 hle (fun t ht => hg t (by simp [ht])) (by simp; omega) (by omega)
    refine ⟨(a.1, p + 1, a.2) :: out, ?_, by simp [hm]⟩
    rw [scan_on hst ga.2.1 (by omega), ho]
    simp
theorem scan_glue (k : Int) (t : List UInt8) (rest : List (Int × List UInt8)) (hg : Good k t) (hr : ∀ t ∈ rest, Good t.1 t.2) (hl : rest.length < 600) (hs : (t ++ tailG rest).length ≤ 4000) :
    ∃ out, scanAll (t ++ tailG rest) = (out, 0, 0) ∧ out.map (fun t => (t.1, t.2.2)) = (k, t) :: rest := by
  have h0 : gapF false ((t ++ tailG rest).drop 0) = 0 := by rw [List.drop_zero]; exact gap_append hg.1 hg.2.2.1 _
  have hst := step_good hg (tailG_form rest) 0 h0 (by simp)
  simp only [Nat.add_zero, Nat.zero_add] at hst
  have hlen : rest.length ≤ (tailG rest).length := by
    clear hst h0 hs hl hr
    induction rest with
    | nil => simp
    | cons a r ih => rw [tailG_cons]; simp; omega
  have hp := List.length_pos_iff.2 hg.1
  obtain ⟨out, ho, hm⟩ := scan_tail (t ++ tailG rest) rest (t ++ tailG rest).length t.length [(k, 0, t)] (by simp) (by simp) hr (by simp; omega) (by simp; omega)
  refine ⟨(k, 0, t) :: out, ?_, by simp [hm]⟩
  rw [scan_begin (by omega), scan_on hst hg.2.1 (by simp)]
  simpa using ho
theorem scan_nil : scanAll [] = ([], 0, 0) := by decide

/- What is known of the tokens of a text. -/
def From (l : List UInt8) (t : Tok) : Prop := t.2.1 ≤ l.length ∧ t.2.2 = (l.drop t.2.1).take t.2.2.length ∧ Good t.1 t.2.2 ∧ t.2.2.length ≤ l.length
theorem scan_from (l : List UInt8) : ∀ (f p : Nat) (acc out : List Tok) (q : Nat), p ≤ l.length → scanF l f p acc = (out, 0, q) → acc.length ≤ 600 → (∀ t ∈ acc, From l t) → (∀ t ∈ out, From l t) ∧ out.length ≤ 600 := by
  intro f
  induction f with
  | zero => intro p acc out q _ h _ _; simp [scanF] at h; obtain ⟨rfl, _⟩ := h; simp
  | succ f ih =>
    intro p acc out q hp h hl ha
    have hq := gap_end_le l p hp
    by_cases he : p + gapF false (l.drop p) = l.length
    · rw [scan_end (step_end rfl he)] at h
      simp only [Prod.mk.injEq] at h
      obtain ⟨rfl, _⟩ := h
      exact ⟨ha, hl⟩
    · have hne : l.drop (p + gapF false (l.drop p)) ≠ [] := by
        intro e; have := congrArg List.length e; simp at this; omega
      obtain ⟨k, t, c, hf⟩ : ∃ k t c, firstF (l.drop (p + gapF false (l.drop p))) = (k, t, c) := ⟨_, _, _, rfl⟩
      by_cases hc : c = 0
      · subst hc
        have hst := step_tok rfl he hf
        have hok := first_ok hf hne
        by_cases h6 : acc.length = 600
        · rw [scan_full hst hok.1 h6] at h; simp at h
        · rw [scan_on hst hok.1 h6] at h
          have h4 := hok.2.2.2
          rw [List.length_drop] at h4
          refine ih _ _ _ _ (by omega) h (by simp; omega) ?_
          intro x hx
          rcases List.mem_append.1 hx with hx | hx
          · exact ha x hx
          · simp at hx; subst hx
            exact ⟨hq, hok.2.2.1, first_good hf hne, by show t.length ≤ _; omega⟩
      · rw [scan_bad (step_bad rfl he hf hc) hc] at h
        simp only [Prod.mk.injEq] at h
        exact absurd h.2.1 hc
theorem all_from {l : List UInt8} {out : List Tok} {q : Nat} (h : scanAll l = (out, 0, q)) : (∀ t ∈ out, From l t) ∧ out.length ≤ 600 ∧ l.length ≤ 4000 := by
  by_cases hb : 4000 < l.length
  · rw [scan_many hb] at h; simp at h
  · rw [scan_begin hb] at h
    have := scan_from l _ 0 [] out q (by omega) h (by simp) (by simp)
    exact ⟨this.1, this.2, by omega⟩
end Lex
end Go.Proofs.YtcdeicfegfedfaaGreatDoor
