/- Contract of the document's own IsName. -/
import Derived.Test.YtfhpmnghakhlkaaDoorNames2
namespace Go.Proofs.YtfhpmnghakhlkaaDoor
open Go.RowKit

theorem both_ascii : ∀ (j : Nat) b, (⟨Lex.bothT.toArray⟩ : ByteArray).data.toList[j]? = some b → b.toNat < 128 := by
  have h : ∀ b ∈ Lex.bothT, b.toNat < 128 := by decide
  intro j b hb
  exact h b (List.mem_of_getElem? hb)
theorem trim_both (s : ByteArray) (w : World) (hs : s.size ≤ 140737488351232) (b : Bool) (h : Hid (decide (Lex.runLen Lex.nameB s.data.toList = s.data.toList.length) = b)) :
    Calls Tryd.prog 41 #[.string s, .string ⟨Lex.bothT.toArray⟩] w fun e w' => ∃ t : ByteArray, e = .returned (.string t) ∧ t.toList.isEmpty = b ∧ Below w.heap.size w w' := by
  refine (Tryd.strings_Trim_set s ⟨Lex.bothT.toArray⟩ w (by omega) (by decide) both_ascii).mono ?_
  rintro e w' ⟨rfl, hb⟩
  refine ⟨_, rfl, ?_, hb⟩
  rw [ByteArray.toList_mk, show (⟨Lex.bothT.toArray⟩ : ByteArray).data.toList = Lex.bothT from rfl, Lex.trim_all]
  exact h.out
theorem contains_figs (c : UInt8) (w : World) (b : Bool) (h : Hid (Lex.digitB (c.toNat : Int) = b)) :
    Calls Tryd.prog 42 #[.string ⟨Lex.figuresT.toArray⟩, .string ⟨#[c]⟩] w fun e w' => e = .returned (.bool b) ∧ w' = w := by
  have := Tryd.strings_Contains_one ⟨Lex.figuresT.toArray⟩ c w
  rw [show (⟨Lex.figuresT.toArray⟩ : ByteArray).data.toList = Lex.figuresT from rfl, Lex.digit_in, h.out] at this
  exact this
theorem alpha_of {c : Int} (h : Lex.nameB c = true) : Lex.alphaB c = !Lex.digitB c := by
  cases hd : Lex.digitB c
  · simp [Lex.nameB, hd] at h; simp [h]
  · simp [Lex.digitB] at hd
    simp [Lex.alphaB]; omega

set_option maxHeartbeats 1000000 in
set_option maxRecDepth 100000 in
theorem isName_any (s : ByteArray) (m : Int) (w : World) (hsm : s.size ≤ 9223372036854775807) (hm : w.cell? ⟨0, 0, none⟩ = some (.int .i64 m)) :
    Calls Tryd.prog 26 #[.string s] w fun e w' => e = .returned (.bool (Lex.nameF s.data.toList)) ∧ Below w.heap.size w w' := by
  by_cases h0 : s.data.toList = []
  · have he : s.toList.isEmpty = true := by rw [Lex.list_of, h0]; rfl
    have hw : Lex.nameF s.data.toList = false := by rw [h0]; rfl
    rw [hw]
    clear h0 hw
    go_enter Tryd.func26, Tryd.ntmps26
    go_wp2
    go_ret
    exact ⟨rfl, Below.refl _ _⟩
  · have he : s.toList.isEmpty = false := by rw [Lex.list_of]; simpa using h0
    have hp : 0 < s.size := by rw [← Lex.len_of]; exact List.length_pos_iff.2 h0
    by_cases h12 : s.size ≤ 12
    · have hs : s.size ≤ 140737488351232 := by omega
      have d : decide ((s.size : Int) ≤ 12) = true := by simp; omega
      have hc0 := Lex.c0_of s hp
      cases hwd : Lex.wordB s.data.toList
      · have HW : Hid (Lex.wordB s.data.toList = false) := hwd
        by_cases hr : Lex.runLen Lex.nameB s.data.toList = s.data.toList.length
        · have hall := (Lex.run_all Lex.nameB s.data.toList).1 hr
          have hn0 : Lex.nameB ((s[0].toNat : Nat) : Int) = true := hall s[0] (by rw [Lex.cons_of s hp]; simp)
          have hres : Lex.nameF s.data.toList = !Lex.digitB ((s[0].toNat : Nat) : Int) := by
            cases hd : Lex.digitB ((s[0].toNat : Nat) : Int)
            · rw [Lex.nameF_end h0 (by rw [Lex.len_of]; omega) (by rw [hc0, alpha_of hn0, hd]; rfl) hr, hwd]
            · rw [Lex.nameF_first (by rw [hc0, alpha_of hn0, hd]; rfl)]; rfl
          rw [hres]
          obtain ⟨b, hb⟩ : ∃ b, Lex.digitB ((s[0].toNat : Nat) : Int) = b := ⟨_, rfl⟩
          rw [hb]
          have HB : Hid (Lex.digitB ((s[0].toNat : Nat) : Int) = b) := hb
          have HR : Hid (decide (Lex.runLen Lex.nameB s.data.toList = s.data.toList.length) = true) := by show _ = _; simpa using hr
          have HE : Hid (s.extract 0 1 = ⟨#[s[0]]⟩) := one_byte s 0 hp
          clear h0 hc0 hwd hr hall hn0 hres hb
          go_enter Tryd.func26, Tryd.ntmps26
          go_wp2_with fail
          refine (isWord_any s m _ hs hm).mono ?_
          rintro e w1 ⟨rfl, hw1⟩
          have hw' := hw1.symm
          subst hw'
          rw [HW.out]
          go_wp2_with fail
          refine (trim_both s _ hs true HR).mono ?_
          rintro e w2 ⟨t, rfl, ht, hb2⟩
          go_wp2_with fail
          rw [HE.out]
          refine (contains_figs _ _ b HB).mono ?_
          rintro e w3 ⟨rfl, hw3⟩
          have hw' := hw3.symm
          subst hw'
          go_wp2
          go_ret
          exact ⟨rfl, hb2⟩
        · rw [Lex.nameF_run hr]
          have HR : Hid (decide (Lex.runLen Lex.nameB s.data.toList = s.data.toList.length) = false) := by show _ = _; simpa using hr
          clear h0 hc0 hwd hr
          go_enter Tryd.func26, Tryd.ntmps26
          go_wp2_with fail
          refine (isWord_any s m _ hs hm).mono ?_
          rintro e w1 ⟨rfl, hw1⟩
          have hw' := hw1.symm
          subst hw'
          rw [HW.out]
          go_wp2_with fail
          refine (trim_both s _ hs false HR).mono ?_
          rintro e w2 ⟨t, rfl, ht, hb2⟩
          go_wp2
          go_ret
          exact ⟨rfl, hb2⟩
      · rw [Lex.nameF_word hwd]
        have HW : Hid (Lex.wordB s.data.toList = true) := hwd
        clear h0 hc0 hwd
        go_enter Tryd.func26, Tryd.ntmps26
        go_wp2_with fail
        refine (isWord_any s m _ hs hm).mono ?_
        rintro e w1 ⟨rfl, hw1⟩
        have hw' := hw1.symm
        subst hw'
        rw [HW.out]
        go_wp2
        go_ret
        exact ⟨rfl, Below.refl _ _⟩
    · rw [Lex.nameF_long (by rw [Lex.len_of]; omega)]
      have d : decide ((s.size : Int) ≤ 12) = false := by simp; omega
      clear h0
      go_enter Tryd.func26, Tryd.ntmps26
      go_wp2
      go_ret
      exact ⟨rfl, Below.refl _ _⟩
end Go.Proofs.YtfhpmnghakhlkaaDoor
