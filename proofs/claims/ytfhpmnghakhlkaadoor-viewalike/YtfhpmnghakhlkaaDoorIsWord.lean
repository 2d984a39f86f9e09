/- Contract of the document's own IsWord. -/
import Derived.Test.YtfhpmnghakhlkaaDoorChecked
import Derived.Test.YtfhpmnghakhlkaaDoorShelfT
import Derived.Test.YtfhpmnghakhlkaaDoorLexT
import Derived.Test.YtfhpmnghakhlkaaDoorLexB
import Derived.WalkKit
import Derived.ProofKit
import Derived.Outline
namespace Go.Proofs.YtfhpmnghakhlkaaDoor
open Go.RowKit

theorem sub_list (s : ByteArray) : ((⟨#[32]⟩ : ByteArray) ++ s ++ ⟨#[32]⟩).data.toList = 32 :: (s.data.toList ++ [32]) := by
  have e1 : s = ⟨s.data.toList.toArray⟩ := rfl
  have e3 : (⟨#[32]⟩ : ByteArray) = ⟨([32] : List UInt8).toArray⟩ := rfl
  conv => lhs; rw [e1, e3]
  rw [ByteArray.mk_append_mk, ByteArray.mk_append_mk]
  simp
theorem contains_words (s : ByteArray) (b : Bool) (m : Int) (w : World) (hm : w.cell? ⟨0, 0, none⟩ = some (.int .i64 m)) (h : Hid (Lib.contains Lex.wordsT (32 :: (s.data.toList ++ [32])) = b)) :
    Calls Tryd.prog 42 #[.string ⟨Lex.wordsT.toArray⟩, .string ((⟨#[32]⟩ : ByteArray) ++ s ++ ⟨#[32]⟩)] w fun e w' => e = .returned (.bool b) ∧ w' = w := by
  have := Tryd.strings_Contains ⟨Lex.wordsT.toArray⟩ ((⟨#[32]⟩ : ByteArray) ++ s ++ ⟨#[32]⟩) m w (by decide) hm
  rw [sub_list, show (⟨Lex.wordsT.toArray⟩ : ByteArray).data.toList = Lex.wordsT from rfl, h.out] at this
  exact this
theorem contains_blank (s : ByteArray) (b : Bool) (w : World) (h : Hid (decide (0 ≤ Lib.indexByte s.data.toList 32) = b)) :
    Calls Tryd.prog 42 #[.string s, .string ⟨#[32]⟩] w fun e w' => e = .returned (.bool b) ∧ w' = w := by
  have := Tryd.strings_Contains_one s 32 w
  rw [h.out] at this
  exact this

set_option maxHeartbeats 1000000 in
set_option maxRecDepth 100000 in
theorem isWord_any (s : ByteArray) (m : Int) (w : World) (hs : s.size ≤ 140737488351232) (hm : w.cell? ⟨0, 0, none⟩ = some (.int .i64 m)) :
    Calls Tryd.prog 40 #[.string s] w fun e w' => e = .returned (.bool (Lex.wordB s.data.toList)) ∧ w' = w := by
  by_cases h0 : s.data.toList = []
  · have he : s.toList.isEmpty = true := by rw [Lex.list_of, h0]; rfl
    have hw : Lex.wordB s.data.toList = false := by rw [h0]; rfl
    rw [hw]
    clear h0 hw
    go_enter Tryd.func40, Tryd.ntmps40
    go_wp2
    go_ret
    exact ⟨rfl, rfl⟩
  · have he : s.toList.isEmpty = false := by rw [Lex.list_of]; simpa using h0
    cases hc : Lib.contains Lex.wordsT (32 :: (s.data.toList ++ [32]))
    · have hw : Lex.wordB s.data.toList = false := by
        cases hw : Lex.wordB s.data.toList
        · rfl
        · rw [(Lex.word_in hw).1] at hc; cases hc
      have HC : Hid (Lib.contains Lex.wordsT (32 :: (s.data.toList ++ [32])) = false) := hc
      rw [hw]
      clear hc hw h0
      go_enter Tryd.func40, Tryd.ntmps40
      go_wp2_with fail
      refine (contains_words s false m _ hm HC).mono ?_
      rintro e w1 ⟨rfl, hw1⟩
      have hw' := hw1.symm
      subst hw'
      go_wp2
      go_ret
      exact ⟨rfl, rfl⟩
    · have hbw : Lex.wordB s.data.toList = !decide (0 ≤ Lib.indexByte s.data.toList 32) := by
        cases hw : Lex.wordB s.data.toList
        · cases hd : decide (0 ≤ Lib.indexByte s.data.toList 32)
          · rw [Lex.in_word h0 hc (by simpa using hd)] at hw; cases hw
          · rfl
        · rw [(Lex.word_in hw).2.1]; rfl
      have HC : Hid (Lib.contains Lex.wordsT (32 :: (s.data.toList ++ [32])) = true) := hc
      obtain ⟨b, hb⟩ : ∃ b, decide (0 ≤ Lib.indexByte s.data.toList 32) = b := ⟨_, rfl⟩
      rw [hbw, hb]
      have HB : Hid (decide (0 ≤ Lib.indexByte s.data.toList 32) = b) := hb
      clear hc hbw h0 hb
      go_enter Tryd.func40, Tryd.ntmps40
      go_wp2_with fail
      refine (contains_words s true m _ hm HC).mono ?_
      rintro e w1 ⟨rfl, hw1⟩
      have hw' := hw1.symm
      subst hw'
      go_wp2_with fail
      refine (contains_blank s b _ HB).mono ?_
      rintro e w1 ⟨rfl, hw1⟩
      have hw' := hw1.symm
      subst hw'
      go_wp2
      go_ret
      exact ⟨rfl, rfl⟩
end Go.Proofs.YtfhpmnghakhlkaaDoor
