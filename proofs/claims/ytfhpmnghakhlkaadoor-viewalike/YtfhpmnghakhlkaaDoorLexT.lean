/- The document's own reader of texts reads the same: plain facts. -/
import Derived.Test.YtfhpmnghakhlkaaDoorLexE
import Derived.Lib.IndexMore
import Derived.Lib.Bytealg
import Derived.Lib.SlTrimSet
namespace Go.Proofs.YtfhpmnghakhlkaaDoor
namespace Lex
open Go

def wordsT : List UInt8 := [32, 99, 104, 105, 101, 102, 32, 97, 99, 116, 115, 32, 105, 110, 32, 111, 117, 116, 32, 112, 114, 111, 99, 32, 98, 101, 103, 105, 110, 32, 102, 111, 114, 32, 118, 97, 114, 32, 105, 102, 32, 101, 108, 115, 101, 32, 119, 104, 105, 108, 101, 32, 115, 101, 110, 100, 32, 116, 97, 107, 101, 32, 100, 111, 32, 114, 101, 116, 117, 114, 110, 32, 114, 101, 108, 101, 97, 115, 101, 32, 116, 111, 32, 105, 110, 116, 32, 98, 111, 111, 108, 32, 116, 114, 117, 101, 32, 102, 97, 108, 115, 101, 32]
def lettersT : List UInt8 := [97, 98, 99, 100, 101, 102, 103, 104, 105, 106, 107, 108, 109, 110, 111, 112, 113, 114, 115, 116, 117, 118, 119, 120, 121, 122, 65, 66, 67, 68, 69, 70, 71, 72, 73, 74, 75, 76, 77, 78, 79, 80, 81, 82, 83, 84, 85, 86, 87, 88, 89, 90, 95]
def figuresT : List UInt8 := [48, 49, 50, 51, 52, 53, 54, 55, 56, 57]
def bothT : List UInt8 := [97, 98, 99, 100, 101, 102, 103, 104, 105, 106, 107, 108, 109, 110, 111, 112, 113, 114, 115, 116, 117, 118, 119, 120, 121, 122, 65, 66, 67, 68, 69, 70, 71, 72, 73, 74, 75, 76, 77, 78, 79, 80, 81, 82, 83, 84, 85, 86, 87, 88, 89, 90, 95, 48, 49, 50, 51, 52, 53, 54, 55, 56, 57]

def wordAt (i : Nat) : List UInt8 := (wordsT.drop (i + 1)).takeWhile (fun c => c != 32)
theorem wordAt_ok : ∀ i, i < 130 → wordsT[i]? = some 32 → wordAt i ≠ [] → wordB (wordAt i) = true := by decide +kernel
def wordsL : List (List UInt8) := [[99, 104, 105, 101, 102], [97, 99, 116, 115], [105, 110], [111, 117, 116], [112, 114, 111, 99], [98, 101, 103, 105, 110], [102, 111, 114], [118, 97, 114], [105, 102], [101, 108, 115, 101], [119, 104, 105, 108, 101], [115, 101, 110, 100], [116, 97, 107, 101], [100, 111], [114, 101, 116, 117, 114, 110], [114, 101, 108, 101, 97, 115, 101], [116, 111], [105, 110, 116], [98, 111, 111, 108], [116, 114, 117, 101], [102, 97, 108, 115, 101]]
theorem word_mem {n : List UInt8} (h : wordB n = true) : n ∈ wordsL := by
  simp only [wordB, Bool.or_eq_true, beq_iff_eq, or_assoc] at h
  simp only [wordsL, List.mem_cons, List.not_mem_nil, or_false]
  exact h
theorem words_all : ∀ n ∈ wordsL, Lib.contains wordsT (32 :: (n ++ [32])) = true ∧ Lib.indexByte n 32 = -1 ∧ n ≠ [] := by decide +kernel
theorem word_in {n : List UInt8} (h : wordB n = true) : Lib.contains wordsT (32 :: (n ++ [32])) = true ∧ Lib.indexByte n 32 = -1 ∧ n ≠ [] := words_all n (word_mem h)
theorem u8_all {P : UInt8 → Prop} (h : ∀ n, n < 256 → P (UInt8.ofNat n)) (c : UInt8) : P c := by
  have := h c.toNat c.toNat_lt
  simpa using this
theorem take_until {n r : List UInt8} (hb : ∀ c ∈ n, c ≠ 32) : (n ++ 32 :: r).takeWhile (fun c => c != 32) = n := by
  induction n with
  | nil => simp
  | cons a t ih =>
    have ha : a ≠ 32 := hb a (by simp)
    simp only [List.cons_append, List.takeWhile_cons]
    rw [if_pos (by simpa using ha), ih (fun c hc => hb c (by simp [hc]))]
theorem no_byte (l : List UInt8) (c : UInt8) (h : ¬ 0 ≤ Lib.indexByte l c) : ∀ a ∈ l, a ≠ c := by
  induction l with
  | nil => simp
  | cons a r ih =>
    unfold Lib.indexByte at h
    by_cases ha : (a == c) = true
    · rw [if_pos ha] at h; omega
    · rw [if_neg ha] at h
      have hr : ¬ 0 ≤ Lib.indexByte r c := by
        split at h
        · rename_i h1; have := eq_of_beq h1; omega
        · omega
      intro x hx
      rcases List.mem_cons.1 hx with rfl | hx
      · simpa using ha
      · exact ih hr x hx
theorem in_word {n : List UInt8} (h0 : n ≠ []) (h : Lib.contains wordsT (32 :: (n ++ [32])) = true) (hb : ¬ 0 ≤ Lib.indexByte n 32) : wordB n = true := by
  have hb' := no_byte n 32 hb
  unfold Lib.contains at h
  have h' : 0 ≤ Lib.index wordsT (32 :: (n ++ [32])) := by simpa using h
  rcases Lib.index_spec wordsT (32 :: (n ++ [32])) with ⟨he, _⟩ | ⟨i, _, hi, ho, _⟩
  · omega
  · unfold Lib.occAt at ho
    rw [List.isPrefixOf_iff_prefix] at ho
    obtain ⟨r, hr⟩ := ho
    have e0 : wordsT[i]? = some 32 := by
      have := congrArg (fun l : List UInt8 => l[0]?) hr
      simpa [List.getElem?_drop] using this.symm
    have e1 : wordsT.drop (i + 1) = n ++ 32 :: r := by
      have := congrArg (fun l : List UInt8 => l.drop 1) hr
      simpa using this.symm
    have e2 : wordAt i = n := by unfold wordAt; rw [e1]; exact take_until hb'
    have := wordAt_ok i (by have : wordsT.length < 130 := by decide
                            omega) e0 (by rw [e2]; exact h0)
    rwa [e2] at this

theorem blank_in (c : UInt8) : decide (0 ≤ Lib.indexByte [32, 9, 10] c) = blankB (c.toNat : Int) := u8_all (P := fun c => decide (0 ≤ Lib.indexByte [32, 9, 10] c) = blankB (c.toNat : Int)) (by decide +kernel) c
theorem alpha_in (c : UInt8) : decide (0 ≤ Lib.indexByte lettersT c) = alphaB (c.toNat : Int) := u8_all (P := fun c => decide (0 ≤ Lib.indexByte lettersT c) = alphaB (c.toNat : Int)) (by decide +kernel) c
theorem digit_in (c : UInt8) : decide (0 ≤ Lib.indexByte figuresT c) = digitB (c.toNat : Int) := u8_all (P := fun c => decide (0 ≤ Lib.indexByte figuresT c) = digitB (c.toNat : Int)) (by decide +kernel) c
theorem both_has (c : UInt8) : bothT.contains c = nameB (c.toNat : Int) := u8_all (P := fun c => bothT.contains c = nameB (c.toNat : Int)) (by decide +kernel) c
theorem figures_has (c : UInt8) : figuresT.contains c = digitB (c.toNat : Int) := u8_all (P := fun c => figuresT.contains c = digitB (c.toNat : Int)) (by decide +kernel) c
theorem trim_run (p : Int → Bool) (cs : List UInt8) (h : ∀ c : UInt8, cs.contains c = p (c.toNat : Int)) (l : List UInt8) : Lib.trimLeftS l cs = l.drop (runLen p l) := by
  unfold Lib.trimLeftS
  induction l with
  | nil => rfl
  | cons a r ih =>
    simp only [List.dropWhile_cons, runLen, h a]
    cases p (a.toNat : Int)
    · rfl
    · simpa using ih
theorem line_run (l : List UInt8) : (0 ≤ Lib.indexByte l 10 → Lib.indexByte l 10 = (runLen lineB l : Nat) ∧ runLen lineB l < l.length) ∧ (¬ 0 ≤ Lib.indexByte l 10 → runLen lineB l = l.length) := by
  induction l with
  | nil => exact ⟨fun h => by simp [Lib.indexByte] at h, fun _ => rfl⟩
  | cons a r ih =>
    unfold Lib.indexByte
    by_cases ha : (a == 10) = true
    · rw [if_pos ha]
      have e : a = 10 := eq_of_beq ha
      subst e
      refine ⟨fun _ => ⟨rfl, by simp [runLen, lineB]⟩, fun h => by omega⟩
    · rw [if_neg ha]
      have hl : lineB (a.toNat : Int) = true := by
        have hne : a ≠ 10 := by simpa using ha
        have hn : (a.toNat : Int) ≠ 10 := by
          intro e; apply hne; apply UInt8.toNat_inj.1; simp; omega
        simp [lineB, hn]
      simp only [runLen, hl, if_true, List.length_cons]
      by_cases h1 : 0 ≤ Lib.indexByte r 10
      · obtain ⟨e1, e2⟩ := ih.1 h1
        rw [if_neg (by simp; omega)]
        exact ⟨fun _ => ⟨by omega, by omega⟩, fun h => by omega⟩
      · have e1 := ih.2 h1
        have e2 : Lib.indexByte r 10 = -1 := by
          have : ∀ l : List UInt8, -1 ≤ Lib.indexByte l 10 := by
            intro l; induction l with
            | nil => simp [Lib.indexByte]
            | cons a t ih => unfold Lib.indexByte; split; · omega
                             · split <;> omega
          have := this r; omega
        rw [if_pos (by simp [e2])]
        exact ⟨fun h => by omega, fun _ => by omega⟩

/- Nothing hangs on where among the blanks the reader stands. -/
theorem step_same {l : List UInt8} {p a : Nat} (h : p + gapF false (l.drop p) = a + gapF false (l.drop a)) : stepF l p = stepF l a := by unfold stepF; rw [h]
theorem scan_same {l : List UInt8} {f p a : Nat} {acc : List Tok} (h : p + gapF false (l.drop p) = a + gapF false (l.drop a)) : scanF l (f + 1) p acc = scanF l (f + 1) a acc := by
  unfold scanF; rw [step_same h]
end Lex
end Go.Proofs.YtfhpmnghakhlkaaDoor
