/- Plain functions on lists of bytes: how a text is read as tokens. Nothing of the program is named here. -/
import Derived.WalkKit
namespace Go.Proofs.YtfhpmnghakhlkaaDoor
namespace Lex

def blankB (c : Int) : Bool := c == 32 || c == 9 || c == 10
def lineB (c : Int) : Bool := c != 10
def digitB (c : Int) : Bool := decide (48 ≤ c ∧ c ≤ 57)
def alphaB (c : Int) : Bool := decide ((97 ≤ c ∧ c ≤ 122) ∨ (65 ≤ c ∧ c ≤ 90) ∨ c = 95)
def nameB (c : Int) : Bool := alphaB c || digitB c

def runLen (p : Int → Bool) : List UInt8 → Nat
  | [] => 0
  | c :: r => if p (c.toNat : Int) then runLen p r + 1 else 0

theorem runLen_le (p : Int → Bool) (l : List UInt8) : runLen p l ≤ l.length := by
  induction l with
  | nil => simp [runLen]
  | cons c r ih => simp only [runLen, List.length_cons]; split <;> omega

theorem runLen_drop (p : Int → Bool) (l : List UInt8) (k : Nat) (h : k < l.length) :
    runLen p (l.drop k) = if p ((l[k].toNat : Nat) : Int) then runLen p (l.drop (k + 1)) + 1 else 0 := by
  rw [List.drop_eq_getElem_cons h]; rfl

theorem runLen_end (p : Int → Bool) (l : List UInt8) (k : Nat) (h : l.length ≤ k) : runLen p (l.drop k) = 0 := by
  rw [List.drop_of_length_le h]; rfl

theorem run_start (p : Int → Bool) (s : ByteArray) : RowKit.Hid (runLen p s.data.toList = 0 + runLen p (s.data.toList.drop 0)) := by
  show _ = _; simp
theorem run_yes (p : Int → Bool) (s : ByteArray) (k : Nat) (h : k < s.size) (hp : p ((s[k].toNat : Nat) : Int) = true) (H : RowKit.Hid (runLen p s.data.toList = k + runLen p (s.data.toList.drop k))) :
    RowKit.Hid (runLen p s.data.toList = (k + 1) + runLen p (s.data.toList.drop (k + 1))) := by
  have hl : k < s.data.toList.length := by simpa using h
  have hc := runLen_drop p s.data.toList k hl
  have e0 : s.data.toList[k]'hl = s[k] := rfl
  rw [e0, hp, if_pos rfl] at hc
  have := H.out; show _ = _; omega
theorem run_no (p : Int → Bool) (s : ByteArray) (k : Nat) (h : k < s.size) (hp : p ((s[k].toNat : Nat) : Int) = false) (H : RowKit.Hid (runLen p s.data.toList = k + runLen p (s.data.toList.drop k))) :
    RowKit.Hid (runLen p s.data.toList = k) := by
  have hl : k < s.data.toList.length := by simpa using h
  have hc := runLen_drop p s.data.toList k hl
  have e0 : s.data.toList[k]'hl = s[k] := rfl
  rw [e0, hp, if_neg (by simp)] at hc
  have := H.out; show _ = _; omega
theorem run_stop (p : Int → Bool) (s : ByteArray) (k : Nat) (h : s.size ≤ k) (H : RowKit.Hid (runLen p s.data.toList = k + runLen p (s.data.toList.drop k))) :
    RowKit.Hid (runLen p s.data.toList = k) := by
  have hc := runLen_end p s.data.toList k (by simpa using h)
  have := H.out; show _ = _; omega

def wordB (l : List UInt8) : Bool := l == [99, 104, 105, 101, 102] || l == [97, 99, 116, 115] || l == [105, 110] || l == [111, 117, 116] || l == [112, 114, 111, 99] || l == [98, 101, 103, 105, 110] || l == [102, 111, 114] || l == [118, 97, 114] || l == [105, 102] || l == [101, 108, 115, 101] || l == [119, 104, 105, 108, 101] || l == [115, 101, 110, 100] || l == [116, 97, 107, 101] || l == [100, 111] || l == [114, 101, 116, 117, 114, 110] || l == [114, 101, 108, 101, 97, 115, 101] || l == [116, 111] || l == [105, 110, 116] || l == [98, 111, 111, 108] || l == [116, 114, 117, 101] || l == [102, 97, 108, 115, 101]
theorem word_yes {l v : List UInt8} (h : (l == v) = true) (hv : wordB v = true) : wordB l = true := by rw [eq_of_beq h]; exact hv

/- A kind, a text, an error: what the letters, the digits or the sign at a text's head are read as. -/
def lettersF (l : List UInt8) : Int × List UInt8 × Int := if 12 < l.length then (0, [], 2) else if wordB l then (3, l, 0) else (1, l, 0)
def digitsF (l : List UInt8) : Int × List UInt8 × Int := if 9 < l.length ∨ (1 < l.length ∧ l.head? = some 48) then (0, [], 3) else (2, l, 0)
def twoB (l : List UInt8) : Bool := l == [38, 38] || l == [124, 124] || l == [61, 61] || l == [33, 61] || l == [60, 61] || l == [62, 61]
def oneB (c : Int) : Bool := c == 43 || c == 45 || c == 42 || c == 47 || c == 37 || c == 60 || c == 62 || c == 33 || c == 40 || c == 41 || c == 123 || c == 125 || c == 44 || c == 59 || c == 58 || c == 61
def c0 (l : List UInt8) : Int := ((l.headD 0).toNat : Int)
def signF (l : List UInt8) : List UInt8 := if twoB (l.take 2) then l.take 2 else if oneB (c0 l) then l.take 1 else []
def firstF (l : List UInt8) : Int × List UInt8 × Int :=
  if alphaB (c0 l) then lettersF (l.take (runLen nameB l)) else if digitB (c0 l) then digitsF (l.take (runLen digitB l)) else if (signF l).isEmpty then (0, [], 1) else (4, signF l, 0)

/- How many bytes ahead of the first token only part tokens; true: within a note. -/
def gapF : Bool → List UInt8 → Nat
  | _, [] => 0
  | true, c :: r => if lineB (c.toNat : Int) then gapF true r + 1 else gapF false r + 1
  | false, c :: r => if blankB (c.toNat : Int) then gapF false r + 1 else if ((c.toNat : Int) == 35) then gapF true r + 1 else 0

theorem gap_note (l : List UInt8) : gapF true l = runLen lineB l + gapF false (l.drop (runLen lineB l)) := by
  induction l with
  | nil => rfl
  | cons c r ih =>
    simp only [gapF, runLen]
    cases h : lineB (c.toNat : Int)
    · have hb : blankB (c.toNat : Int) = true := by simp [lineB] at h; simp [blankB, h]
      simp [gapF, hb]
    · simp [ih]; omega
theorem gap_le (b : Bool) (l : List UInt8) : gapF b l ≤ l.length := by
  induction l generalizing b with
  | nil => cases b <;> simp [gapF]
  | cons c r ih =>
    have h1 := ih true; have h2 := ih false
    cases b <;> simp only [gapF, List.length_cons] <;> (repeat' split) <;> omega
theorem gap_blank (l : List UInt8) (k : Nat) (h : k < l.length) (hb : blankB ((l[k].toNat : Nat) : Int) = true) : gapF false (l.drop k) = gapF false (l.drop (k + 1)) + 1 := by
  rw [List.drop_eq_getElem_cons h]; simp only [gapF, hb, if_true]
theorem gap_hash (l : List UInt8) (k : Nat) (h : k < l.length) (hb : blankB ((l[k].toNat : Nat) : Int) = false) (hc : (((l[k].toNat : Nat) : Int) == 35) = true) :
    gapF false (l.drop k) = runLen lineB (l.drop k) + gapF false (l.drop (k + runLen lineB (l.drop k))) := by
  rw [← List.drop_drop, List.drop_eq_getElem_cons h]
  have hl : lineB ((l[k].toNat : Nat) : Int) = true := by rw [eq_of_beq hc]; rfl
  simp only [gapF, hb, hc, if_true, runLen, hl, gap_note (l.drop (k + 1)), List.drop_succ_cons]
  simp
  omega
theorem gap_stop (l : List UInt8) (k : Nat) (h : k < l.length) (hb : blankB ((l[k].toNat : Nat) : Int) = false) (hc : (((l[k].toNat : Nat) : Int) == 35) = false) : gapF false (l.drop k) = 0 := by
  rw [List.drop_eq_getElem_cons h]; simp [gapF, hb, hc]
theorem gap_end (l : List UInt8) (k : Nat) (h : l.length ≤ k) : gapF false (l.drop k) = 0 := by
  rw [List.drop_of_length_le h]; rfl

end Lex
end Go.Proofs.YtfhpmnghakhlkaaDoor
