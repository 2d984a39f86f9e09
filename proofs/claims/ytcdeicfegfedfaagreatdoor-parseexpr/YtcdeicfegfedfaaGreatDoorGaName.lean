/- The document's own reader of texts reads the same: plain facts. Contract of the document's own IsWord. Contract of scan.Name, where scan.Scan's stand beside it. Lists of bytes: dropped, trimmed, run through (where scan.Name's contract is NameC's). Contract of the document's own IsName. -/
import Derived.Test.YtcdeicfegfedfaaGreatDoorGaLex
import Derived.Lib.IndexMore
import Derived.Lib.Bytealg
import Derived.Lib.SlTrimSet
import Derived.Test.YtcdeicfegfedfaaGreatDoorChecked
import Derived.Test.YtcdeicfegfedfaaGreatDoorShelfT
import Derived.WalkKit
import Derived.ProofKit
import Derived.Outline
import Derived.Test.YtcdeicfegfedfaaGreatDoorGaDoc
import Derived.Test.YtcdeicfegfedfaaGreatDoorGaRun
namespace Go.Proofs.YtcdeicfegfedfaaGreatDoor
namespace Lex
open Go

def wordsT : List UInt8 := [32, 99, 104, 105, 101, 102, 32, 97, 99, 116, 115, 32, 105, 110, 32, 111, 117, 116, 32, 112, 114, 111, 99, 32, 98, 101, 103, 105, 110, 32, 102, 111, 114, 32, 118, 97, 114, 32, 105, 102, 32, 101, 108, 115, 101, 32, 119, 104, 105, 108, 101, 32, 115, 101, 110, 100, 32, 116, 97, 107, 101, 32, 100, 111, 32, 114, 101, 116, 117, 114, 110, 32, 114, 101, 108, 101, 97, 115, 101, 32, 116, 111, 32, 105, 110, 116, 32, 98, 111, 111, 108, 32, 116, 114, 117, 101, 32, 102, 97, 108, 115, 101, 32]
def lettersT : List UInt8 := [97, 98, 99, 100, 101, 102, 103, 104, 105, 106, 107, 108, 109, 110, 111, 112, 113, 114, 115, 116, 117, 118, 119, 120, 121, 122, 65, 66, 67, 68, 69, 70, 71, 72, 73, 74, 75, 76, 77, 78, 79, 80, 81, 82, 83, 84, 85, 86, 87, 88, 89, 90, 95]
def figuresT : List UInt8 := [48, 49, 50, 51, 52, 53, 54, 55, 56, 57]
def bothT : List UInt8 := [97, 98, 99, 100, 101, 102, 103, 104, 105, 106, 107, 108, 109, 110, 111, 112, 113, 114, 115, 116, 117, 118, 119, 120, 121, 122, 65, 66, 67, 68, 69, 70, 71, 72, 73, 74, 75, 76, 77, 78, 79, 80, 81, 82, 83, 84, 85, 86, 87, 88, 89, 90, 95, 48, 49, 50, 51, 52, 53, 54, 55, 56, 57]

def wordAt (i : Nat) : List UInt8 := (wordsT.drop (i + 1)).takeWhile (fun c => c != 32)
theorem wordAt_ok : ∀ i, i < 130 → wordsT[i]? = some 32 → wordAt i ≠ [] → wordB (wordAt i) = true := by decide +kernel
def wordsL : List (List UInt8) := [[99, 104, 105, 101, 102], [97, 99, 116, 115], [105, 110], [111, 117, 116], [112, 114, 111, 99], [98, 101, 103, 105, 110], [102, 111, 114], [118, 97, 114], [105, 102], [101, 108, 115, 101], [119, 104, 105, 108, 101], [115, 101, 110, 100], [116, 97, 107, 101], [100, 111], [114, 101, 116, 117, 114, 110], [114, 101, 108, 101, 97, 115, 101], [116, 111], [105, 110, 116], [98, 111, 111, 108], [116, 114, 117, 101], [102, 97, 108, 115, 101]]
theorem word_mem {n : List UInt8} (h : wordB n = true) : n ∈ wordsL := by
  simp only [wordB, Bool.or_eq_true, beq_iff_eq, or_assoc] at h
  simp only [wordsL, List.mem_cons, List.not_mem_nil, or_false]
  exact h
theorem words_all : ∀ n ∈ wordsL, Lib.contains wordsT (32 :: (n ++ [32])) = true ∧ Lib.indexByte n 32 = -1 ∧ n ≠ [] := by decide +kernel
theorem word_in {n : List UInt8} (h : wordB n = true) : Lib.contains wordsT (32 :: (n ++ [32])) = true ∧ Lib.indexByte n 32 = -1 ∧ n ≠ [] := words_all n (word_mem h)
theorem u8_all {P : UInt8 → Prop} (h : ∀ n, n < 256 → P (UInt8.ofNat n)) (c : UInt8) : P c := by
  have := h c.toNat c.toNat_lt
  simpa using this
theorem take_until {n r : List UInt8} (hb : ∀ c ∈ n, c ≠ 32) : (n ++ 32 :: r).takeWhile (fun c => c != 32) = n := by
  induction n with
  | nil => simp
  | cons a t ih =>
    have ha : a ≠ 32 := hb a (by simp)
    simp only [List.cons_append, List.takeWhile_cons]
    rw [if_pos (by simpa using ha), ih (fun c hc => hb c (by simp [hc]))]
theorem no_byte (l : List UInt8) (c : UInt8) (h : ¬ 0 ≤ Lib.indexByte l c) : ∀ a ∈ l, a ≠ c := by
  induction l with
  | nil => simp
  | cons a r ih =>
    unfold Lib.indexByte at h
    by_cases ha : (a == c) = true
    · rw [if_pos ha] at h; omega
    · rw [if_neg ha] at h
      have hr : ¬ 0 ≤ Lib.indexByte r c := by
        split at h
        · rename_i h1; have := eq_of_beq h1; omega
        · omega
      intro x hx
      rcases List.mem_cons.1 hx with rfl | hx
      · simpa using ha
      · exact ih hr x hx
theorem in_word {n : List UInt8} (h0 : n ≠ []) (h : Lib.contains wordsT (32 :: (n ++ [32])) = true) (hb : ¬ 0 ≤ Lib.indexByte n 32) : wordB n = true := by
  have hb' := no_byte n 32 hb
  unfold Lib.contains at h
  have h' : 0 ≤ Lib.index wordsT (32 :: (n ++ [32])) := by simpa using h
  rcases Lib.index_spec wordsT (32 :: (n ++ [32])) with ⟨he, _⟩ | ⟨i, _, hi, ho, _⟩
  · omega
  · unfold Lib.occAt at ho
    rw [List.isPrefixOf_iff_prefix] at ho
    obtain ⟨r, hr⟩ := ho
    have e0 : wordsT[i]? = some 32 := by
      have := congrArg (fun l : List UInt8 => l[0]?) hr
      simpa [List.getElem?_drop] using this.symm
    have e1 : wordsT.drop (i + 1) = n ++ 32 :: r := by
      have := congrArg (fun l : List UInt8 => l.drop 1) hr
      simpa using this.symm
    have e2 : wordAt i = n := by unfold wordAt; rw [e1]; exact take_until hb'
    have := wordAt_ok i (by have : wordsT.length < 130 := by decide
                            omega) e0 (by rw [e2]; exact h0)
    rwa [e2] at this

theorem blank_in (c : UInt8) : decide (0 ≤ Lib.indexByte [32, 9, 10] c) = blankB (c.toNat : Int) := u8_all (P := fun c => decide (0 ≤ Lib.indexByte [32, 9, 10] c) = blankB (c.toNat : Int)) (by decide +kernel) c
theorem alpha_in (c : UInt8) : decide (0 ≤ Lib.indexByte lettersT c) = alphaB (c.toNat : Int) := u8_all (P := fun c => decide (0 ≤ Lib.indexByte lettersT c) = alphaB (c.toNat : Int)) (by decide +kernel) c
theorem digit_in (c : UInt8) : decide (0 ≤ Lib.indexByte figuresT c) = digitB (c.toNat : Int) := u8_all (P := fun c => decide (0 ≤ Lib.indexByte figuresT c) = digitB (c.toNat : Int)) (by decide +kernel) c
theorem both_has (c : UInt8) : bothT.contains c = nameB (c.toNat : Int) := u8_all (P := fun c => bothT.contains c = nameB (c.toNat : Int)) (by decide +kernel) c
theorem figures_has (c : UInt8) : figuresT.contains c = digitB (c.toNat : Int) := u8_all (P := fun c => figuresT.contains c = digitB (c.toNat : Int)) (by decide +kernel) c
theorem trim_run (p : Int → Bool) (cs : List UInt8) (h : ∀ c : UInt8, cs.contains c = p (c.toNat : Int)) (l : List UInt8) : Lib.trimLeftS l cs = l.drop (runLen p l) := by
  unfold Lib.trimLeftS
  induction l with
  | nil => rfl
  | cons a r ih =>
    simp only [List.dropWhile_cons, runLen, h a]
    cases p (a.toNat : Int)
    · rfl
    · simpa using ih
theorem line_run (l : List UInt8) : (0 ≤ Lib.indexByte l 10 → Lib.indexByte l 10 = (runLen lineB l : Nat) ∧ runLen lineB l < l.length) ∧ (¬ 0 ≤ Lib.indexByte l 10 → runLen lineB l = l.length) := by
  induction l with
  | nil => exact ⟨fun h => by simp [Lib.indexByte] at h, fun _ => rfl⟩
  | cons a r ih =>
    unfold Lib.indexByte
    by_cases ha : (a == 10) = true
    · rw [if_pos ha]
      have e : a = 10 := eq_of_beq ha
      subst e
      refine ⟨fun _ => ⟨rfl, by simp [runLen, lineB]⟩, fun h => by omega⟩
    · rw [if_neg ha]
      have hl : lineB (a.toNat : Int) = true := by
        have hne : a ≠ 10 := by simpa using ha
        have hn : (a.toNat : Int) ≠ 10 := by
          intro e; apply hne; apply UInt8.toNat_inj.1; simp; omega
        simp [lineB, hn]
      simp only [runLen, hl, if_true, List.length_cons]
      by_cases h1 : 0 ≤ Lib.indexByte r 10
      · obtain ⟨e1, e2⟩ := ih.1 h1
        rw [if_neg (by simp; omega)]
        exact ⟨fun _ => ⟨by omega, by omega⟩, fun h => by omega⟩
      · have e1 := ih.2 h1
        have e2 : Lib.indexByte r 10 = -1 := by
          have : ∀ l : List UInt8, -1 ≤ Lib.indexByte l 10 := by
            intro l; induction l with
            | nil => simp [Lib.indexByte]
            | cons a t ih => unfold Lib.indexByte; split; · omega
                             · split <;> omega
          have := this r; omega
        rw [if_pos (by simp [e2])]
        exact ⟨fun h => by omega, fun _ => by omega⟩

/- Nothing hangs on where among the blanks the reader stands. -/
theorem step_same {l : List UInt8} {p a : Nat} (h : p + gapF false (l.drop p) = a + gapF false (l.drop a)) : stepF l p = stepF l a := by unfold stepF; rw [h]
theorem scan_same {l : List UInt8} {f p a : Nat} {acc : List Tok} (h : p + gapF false (l.drop p) = a + gapF false (l.drop a)) : scanF l (f + 1) p acc = scanF l (f + 1) a acc := by
  unfold scanF; rw [step_same h]
end Lex
end Go.Proofs.YtcdeicfegfedfaaGreatDoor

namespace Go.Proofs.YtcdeicfegfedfaaGreatDoor
open Go.RowKit

theorem sub_list (s : ByteArray) : ((⟨#[32]⟩ : ByteArray) ++ s ++ ⟨#[32]⟩).data.toList = 32 :: (s.data.toList ++ [32]) := by
  have e1 : s = ⟨s.data.toList.toArray⟩ := rfl
  have e3 : (⟨#[32]⟩ : ByteArray) = ⟨([32] : List UInt8).toArray⟩ := rfl
  conv => lhs; rw [e1, e3]
  rw [ByteArray.mk_append_mk, ByteArray.mk_append_mk]
  simp
theorem contains_words (s : ByteArray) (b : Bool) (m : Int) (w : World) (hm : w.cell? ⟨3, 0, none⟩ = some (.int .i64 m)) (h : Hid (Lib.contains Lex.wordsT (32 :: (s.data.toList ++ [32])) = b)) :
    Calls Tryz.prog 64 #[.string ⟨Lex.wordsT.toArray⟩, .string ((⟨#[32]⟩ : ByteArray) ++ s ++ ⟨#[32]⟩)] w fun e w' => e = .returned (.bool b) ∧ w' = w := by
  have := Tryz.strings_Contains ⟨Lex.wordsT.toArray⟩ ((⟨#[32]⟩ : ByteArray) ++ s ++ ⟨#[32]⟩) m w (by decide) hm
  rw [sub_list, show (⟨Lex.wordsT.toArray⟩ : ByteArray).data.toList = Lex.wordsT from rfl, h.out] at this
  exact this
theorem contains_blank (s : ByteArray) (b : Bool) (w : World) (h : Hid (decide (0 ≤ Lib.indexByte s.data.toList 32) = b)) :
    Calls Tryz.prog 64 #[.string s, .string ⟨#[32]⟩] w fun e w' => e = .returned (.bool b) ∧ w' = w := by
  have := Tryz.strings_Contains_one s 32 w
  rw [h.out] at this
  exact this

set_option maxHeartbeats 1000000 in
set_option maxRecDepth 100000 in
theorem isWord_any (s : ByteArray) (m : Int) (w : World) (hs : s.size ≤ 140737488351232) (hm : w.cell? ⟨3, 0, none⟩ = some (.int .i64 m)) :
    Calls Tryz.prog 67 #[.string s] w fun e w' => e = .returned (.bool (Lex.wordB s.data.toList)) ∧ w' = w := by
  by_cases h0 : s.data.toList = []
  · have he : s.toList.isEmpty = true := by rw [Lex.list_of, h0]; rfl
    have hw : Lex.wordB s.data.toList = false := by rw [h0]; rfl
    rw [hw]
    clear h0 hw
    go_enter Tryz.func67, Tryz.ntmps67
    go_wp2
    go_ret
    exact ⟨rfl, rfl⟩
  · have he : s.toList.isEmpty = false := by rw [Lex.list_of]; simpa using h0
    cases hc : Lib.contains Lex.wordsT (32 :: (s.data.toList ++ [32]))
    · have hw : Lex.wordB s.data.toList = false := by
        cases hw : Lex.wordB s.data.toList
        · rfl
        · rw [(Lex.word_in hw).1] at hc; cases hc
      have HC : Hid (Lib.contains Lex.wordsT (32 :: (s.data.toList ++ [32])) = false) := hc
      rw [hw]
      clear hc hw h0
      go_enter Tryz.func67, Tryz.ntmps67
      go_wp2_with fail
      refine (contains_words s false m _ hm HC).mono ?_
      rintro e w1 ⟨rfl, hw1⟩
      have hw' := hw1.symm
      subst hw'
      go_wp2
      go_ret
      exact ⟨rfl, rfl⟩
    · have hbw : Lex.wordB s.data.toList = !decide (0 ≤ Lib.indexByte s.data.toList 32) := by
        cases hw : Lex.wordB s.data.toList
        · cases hd : decide (0 ≤ Lib.indexByte s.data.toList 32)
          · rw [Lex.in_word h0 hc (by simpa using hd)] at hw; cases hw
          · rfl
        · rw [(Lex.word_in hw).2.1]; rfl
      have HC : Hid (Lib.contains Lex.wordsT (32 :: (s.data.toList ++ [32])) = true) := hc
      obtain ⟨b, hb⟩ : ∃ b, decide (0 ≤ Lib.indexByte s.data.toList 32) = b := ⟨_, rfl⟩
      rw [hbw, hb]
      have HB : Hid (decide (0 ≤ Lib.indexByte s.data.toList 32) = b) := hb
      clear hc hbw h0 hb
      go_enter Tryz.func67, Tryz.ntmps67
      go_wp2_with fail
      refine (contains_words s true m _ hm HC).mono ?_
      rintro e w1 ⟨rfl, hw1⟩
      have hw' := hw1.symm
      subst hw'
      go_wp2_with fail
      refine (contains_blank s b _ HB).mono ?_
      rintro e w1 ⟨rfl, hw1⟩
      have hw' := hw1.symm
      subst hw'
      go_wp2
      go_ret
      exact ⟨rfl, rfl⟩
end Go.Proofs.YtcdeicfegfedfaaGreatDoor

namespace Go.Proofs.YtcdeicfegfedfaaGreatDoor
open Go.RowKit

theorem one_byte (s : ByteArray) (a : Nat) (h : a < s.size) : s.extract a (a + 1) = ⟨#[s[a]]⟩ := by
  rw [Lex.ext_eq]
  have hl : a < s.data.toList.length := by simpa using h
  rw [List.drop_eq_getElem_cons hl]
  simp
  rfl

theorem name_end (s : ByteArray) (h0 : s.data.toList ≠ []) (h12 : ¬ 12 < s.size) (ha : Lex.alphaB (Lex.c0 s.data.toList) = true) (hr : Lex.runLen Lex.nameB s.data.toList = s.data.toList.length) : Lex.nameF s.data.toList = !Lex.wordB s.data.toList := by
  exact Lex.nameF_end h0 (by rw [Lex.len_of]; omega) ha hr

set_option maxHeartbeats 1000000 in
theorem scanName_any (s : ByteArray) (w : World) (hs : s.size ≤ 9223372036854775807) :
    Calls Tryz.prog 88 #[.string s] w fun e w' => e = .returned (.bool (Lex.nameF s.data.toList)) ∧ w' = w := by
  by_cases h0 : s.data.toList = []
  · have he : s.toList.isEmpty = true := by rw [Lex.list_of, h0]; rfl
    have hw : Lex.nameF s.data.toList = false := by rw [h0]; rfl
    rw [hw]
    clear h0 hw
    go_enter Tryz.func88, Tryz.ntmps88
    go_wp2
    go_ret
    exact ⟨rfl, rfl⟩
  · have he : s.toList.isEmpty = false := by rw [Lex.list_of]; simpa using h0
    have hp : 0 < s.size := by rw [← Lex.len_of]; exact List.length_pos_iff.2 h0
    by_cases h12 : 12 < s.size
    · have hw : Lex.nameF s.data.toList = false := Lex.nameF_long (by rw [Lex.len_of]; omega)
      rw [hw]
      have d : decide ((12 : Int) < (s.size : Int)) = true := by simp; omega
      clear h0 hw
      go_enter Tryz.func88, Tryz.ntmps88
      go_wp2
      go_ret
      exact ⟨rfl, rfl⟩
    · have d : decide ((12 : Int) < (s.size : Int)) = false := by simp; omega
      have hc0 := Lex.c0_of s hp
      cases ha : Lex.alphaB ((s[0].toNat : Nat) : Int)
      · have hw : Lex.nameF s.data.toList = false := Lex.nameF_first (by rw [hc0]; exact ha)
        rw [hw]
        clear h0 hw hc0
        go_enter Tryz.func88, Tryz.ntmps88
        go_wp2_with (go_at_call 118; refine (alpha_any _ _).mono ?_; rintro e w' ⟨rfl, rfl⟩)
        go_ret
        exact ⟨rfl, rfl⟩
      · by_cases hr : Lex.runLen Lex.nameB s.data.toList = s.data.toList.length
        · have hw := name_end s h0 h12 (by rw [hc0]; exact ha) hr
          have HR : Hid (s.extract 0 (Lex.runLen Lex.nameB s.data.toList) = s) := by
            show _ = _; rw [Lex.head_eq, hr, List.take_length]
          rw [hw]
          obtain ⟨b, hb⟩ : ∃ b, Lex.wordB s.data.toList = b := ⟨_, rfl⟩
          rw [hb]
          have HW : Hid (Lex.wordB s.toList = b) := by show _ = _; rw [Lex.list_of]; exact hb
          clear h0 hw hc0 hr hb
          go_enter Tryz.func88, Tryz.ntmps88
          go_wp2_with (first | (go_at_call 118; refine (alpha_any _ _).mono ?_; rintro e w' ⟨rfl, rfl⟩) | (go_at_call 116; refine (run_name _ _ (by omega)).mono ?_; rintro e w' ⟨rfl, rfl⟩; rw [HR.out]) | (go_at_call 129; refine (word_any _ _).mono ?_; rintro e w' ⟨rfl, rfl⟩; rw [HW.out]))
          go_ret
          exact ⟨rfl, rfl⟩
        · have hw : Lex.nameF s.data.toList = false := Lex.nameF_run hr
          have hne : (s.extract 0 (Lex.runLen Lex.nameB s.data.toList)).toList ≠ s.toList := by
            rw [Lex.list_of, Lex.list_of, Lib.extract_data]
            intro e; have := congrArg List.length e; simp at this
            have h1 := Lex.runLen_le Lex.nameB s.data.toList
            simp at h1 hr; omega
          have HN : ((s.extract 0 (Lex.runLen Lex.nameB s.data.toList)).toList == s.toList) = false := by simpa using hne
          rw [hw]
          clear h0 hw hc0 hr hne
          go_enter Tryz.func88, Tryz.ntmps88
          go_wp2_with (first | (go_at_call 118; refine (alpha_any _ _).mono ?_; rintro e w' ⟨rfl, rfl⟩) | (go_at_call 116; refine (run_name _ _ (by omega)).mono ?_; rintro e w' ⟨rfl, rfl⟩))
          go_ret
          exact ⟨rfl, rfl⟩
end Go.Proofs.YtcdeicfegfedfaaGreatDoor

namespace Go.Proofs.YtcdeicfegfedfaaGreatDoor
open Go.RowKit

namespace Lex
theorem drop_nil (p : UInt8 → Bool) (x : List UInt8) : x.dropWhile p = [] ↔ ∀ a ∈ x, p a = true := by
  induction x with
  | nil => simp
  | cons a r ih =>
    simp only [List.dropWhile_cons, List.mem_cons, forall_eq_or_imp]
    cases p a <;> simp [ih]
theorem drop_head (p : UInt8 → Bool) (x : List UInt8) (h : x.dropWhile p ≠ []) : ∃ a ∈ x.dropWhile p, p a = false := by
  induction x with
  | nil => simp at h
  | cons a r ih =>
    cases hp : p a
    · exact ⟨a, by simp [hp], hp⟩
    · simp only [List.dropWhile_cons, hp, if_true] at h ⊢
      exact ih h
theorem runs_all (p : Int → Bool) (l : List UInt8) : runLen p l = l.length ↔ ∀ a ∈ l, p (a.toNat : Int) = true := by
  induction l with
  | nil => simp [runLen]
  | cons a r ih =>
    simp only [runLen, List.length_cons, List.mem_cons, forall_eq_or_imp]
    cases p (a.toNat : Int)
    · simp
    · simp [ih]
theorem trim_all (l : List UInt8) : (Lib.trimS l bothT).isEmpty = decide (runLen nameB l = l.length) := by
  have hk : Lib.trimS l bothT = [] ↔ runLen nameB l = l.length := by
    rw [runs_all]
    unfold Lib.trimS Lib.trimLeftS
    rw [drop_nil]
    unfold Lib.trimRightS
    constructor
    · intro h
      have h0 : l.reverse.dropWhile (fun c => bothT.contains c) = [] := by
        by_cases e : l.reverse.dropWhile (fun c => bothT.contains c) = []
        · exact e
        · obtain ⟨a, ha, hp⟩ := drop_head _ _ e
          have := h a (by simpa using ha)
          rw [this] at hp; cases hp
      rw [drop_nil] at h0
      intro a ha
      rw [← both_has]; exact h0 a (by simpa using ha)
    · intro h
      have h0 : l.reverse.dropWhile (fun c => bothT.contains c) = [] := by
        rw [drop_nil]; intro a ha; rw [both_has]; exact h a (by simpa using ha)
      rw [h0]; simp
  rw [Bool.eq_iff_iff]
  simpa using hk
end Lex
end Go.Proofs.YtcdeicfegfedfaaGreatDoor

namespace Go.Proofs.YtcdeicfegfedfaaGreatDoor
open Go.RowKit

theorem both_ascii : ∀ (j : Nat) b, (⟨Lex.bothT.toArray⟩ : ByteArray).data.toList[j]? = some b → b.toNat < 128 := by
  have h : ∀ b ∈ Lex.bothT, b.toNat < 128 := by decide
  intro j b hb
  exact h b (List.mem_of_getElem? hb)
theorem trim_both (s : ByteArray) (w : World) (hs : s.size ≤ 140737488351232) (b : Bool) (h : Hid (decide (Lex.runLen Lex.nameB s.data.toList = s.data.toList.length) = b)) :
    Calls Tryz.prog 106 #[.string s, .string ⟨Lex.bothT.toArray⟩] w fun e w' => ∃ t : ByteArray, e = .returned (.string t) ∧ t.toList.isEmpty = b ∧ Below w.heap.size w w' := by
  refine (Tryz.strings_Trim_set s ⟨Lex.bothT.toArray⟩ w (by omega) (by decide) both_ascii).mono ?_
  rintro e w' ⟨rfl, hb⟩
  refine ⟨_, rfl, ?_, hb⟩
  rw [ByteArray.toList_mk, show (⟨Lex.bothT.toArray⟩ : ByteArray).data.toList = Lex.bothT from rfl, Lex.trim_all]
  exact h.out
theorem contains_figs (c : UInt8) (w : World) (b : Bool) (h : Hid (Lex.digitB (c.toNat : Int) = b)) :
    Calls Tryz.prog 64 #[.string ⟨Lex.figuresT.toArray⟩, .string ⟨#[c]⟩] w fun e w' => e = .returned (.bool b) ∧ w' = w := by
  have := Tryz.strings_Contains_one ⟨Lex.figuresT.toArray⟩ c w
  rw [show (⟨Lex.figuresT.toArray⟩ : ByteArray).data.toList = Lex.figuresT from rfl, Lex.digit_in, h.out] at this
  exact this
theorem alpha_of {c : Int} (h : Lex.nameB c = true) : Lex.alphaB c = !Lex.digitB c := by
  cases hd : Lex.digitB c
  · simp [Lex.nameB, hd] at h; simp [h]
  · simp [Lex.digitB] at hd
    simp [Lex.alphaB]; omega

set_option maxHeartbeats 1000000 in
set_option maxRecDepth 100000 in
theorem isName_any (s : ByteArray) (m : Int) (w : World) (hsm : s.size ≤ 9223372036854775807) (hm : w.cell? ⟨3, 0, none⟩ = some (.int .i64 m)) :
    Calls Tryz.prog 73 #[.string s] w fun e w' => e = .returned (.bool (Lex.nameF s.data.toList)) ∧ Below w.heap.size w w' := by
  by_cases h0 : s.data.toList = []
  · have he : s.toList.isEmpty = true := by rw [Lex.list_of, h0]; rfl
    have hw : Lex.nameF s.data.toList = false := by rw [h0]; rfl
    rw [hw]
    clear h0 hw
    go_enter Tryz.func73, Tryz.ntmps73
    go_wp2
    go_ret
    exact ⟨rfl, Below.refl _ _⟩
  · have he : s.toList.isEmpty = false := by rw [Lex.list_of]; simpa using h0
    have hp : 0 < s.size := by rw [← Lex.len_of]; exact List.length_pos_iff.2 h0
    by_cases h12 : s.size ≤ 12
    · have hs : s.size ≤ 140737488351232 := by omega
      have d : decide ((s.size : Int) ≤ 12) = true := by simp; omega
      have hc0 := Lex.c0_of s hp
      cases hwd : Lex.wordB s.data.toList
      · have HW : Hid (Lex.wordB s.data.toList = false) := hwd
        by_cases hr : Lex.runLen Lex.nameB s.data.toList = s.data.toList.length
        · have hall := (Lex.runs_all Lex.nameB s.data.toList).1 hr
          have hn0 : Lex.nameB ((s[0].toNat : Nat) : Int) = true := hall s[0] (by rw [Lex.cons_of s hp]; simp)
          have hres : Lex.nameF s.data.toList = !Lex.digitB ((s[0].toNat : Nat) : Int) := by
            cases hd : Lex.digitB ((s[0].toNat : Nat) : Int)
            · rw [Lex.nameF_end h0 (by rw [Lex.len_of]; omega) (by rw [hc0, alpha_of hn0, hd]; rfl) hr, hwd]
            · rw [Lex.nameF_first (by rw [hc0, alpha_of hn0, hd]; rfl)]; rfl
          rw [hres]
          obtain ⟨b, hb⟩ : ∃ b, Lex.digitB ((s[0].toNat : Nat) : Int) = b := ⟨_, rfl⟩
          rw [hb]
          have HB : Hid (Lex.digitB ((s[0].toNat : Nat) : Int) = b) := hb
          have HR : Hid (decide (Lex.runLen Lex.nameB s.data.toList = s.data.toList.length) = true) := by show _ = _; simpa using hr
          have HE : Hid (s.extract 0 1 = ⟨#[s[0]]⟩) := one_byte s 0 hp
          clear h0 hc0 hwd hr hall hn0 hres hb
          go_enter Tryz.func73, Tryz.ntmps73
          go_wp2_with fail
          refine (isWord_any s m _ hs hm).mono ?_
          rintro e w1 ⟨rfl, hw1⟩
          have hw' := hw1.symm
          subst hw'
          rw [HW.out]
          go_wp2_with fail
          refine (trim_both s _ hs true HR).mono ?_
          rintro e w2 ⟨t, rfl, ht, hb2⟩
          go_wp2_with fail
          rw [HE.out]
          refine (contains_figs _ _ b HB).mono ?_
          rintro e w3 ⟨rfl, hw3⟩
          have hw' := hw3.symm
          subst hw'
          go_wp2
          go_ret
          exact ⟨rfl, hb2⟩
        · rw [Lex.nameF_run hr]
          have HR : Hid (decide (Lex.runLen Lex.nameB s.data.toList = s.data.toList.length) = false) := by show _ = _; simpa using hr
          clear h0 hc0 hwd hr
          go_enter Tryz.func73, Tryz.ntmps73
          go_wp2_with fail
          refine (isWord_any s m _ hs hm).mono ?_
          rintro e w1 ⟨rfl, hw1⟩
          have hw' := hw1.symm
          subst hw'
          rw [HW.out]
          go_wp2_with fail
          refine (trim_both s _ hs false HR).mono ?_
          rintro e w2 ⟨t, rfl, ht, hb2⟩
          go_wp2
          go_ret
          exact ⟨rfl, hb2⟩
      · rw [Lex.nameF_word hwd]
        have HW : Hid (Lex.wordB s.data.toList = true) := hwd
        clear h0 hc0 hwd
        go_enter Tryz.func73, Tryz.ntmps73
        go_wp2_with fail
        refine (isWord_any s m _ hs hm).mono ?_
        rintro e w1 ⟨rfl, hw1⟩
        have hw' := hw1.symm
        subst hw'
        rw [HW.out]
        go_wp2
        go_ret
        exact ⟨rfl, Below.refl _ _⟩
    · rw [Lex.nameF_long (by rw [Lex.len_of]; omega)]
      have d : decide ((s.size : Int) ≤ 12) = false := by simp; omega
      clear h0
      go_enter Tryz.func73, Tryz.ntmps73
      go_wp2
      go_ret
      exact ⟨rfl, Below.refl _ _⟩
end Go.Proofs.YtcdeicfegfedfaaGreatDoor
