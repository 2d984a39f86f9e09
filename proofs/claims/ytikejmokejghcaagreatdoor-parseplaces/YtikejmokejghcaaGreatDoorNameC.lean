/- Contract of scan.Name, where scan.Scan's stand beside it. -/
import Derived.Test.YtikejmokejghcaaGreatDoorChecked
import Derived.Test.YtikejmokejghcaaGreatDoorGaLex
import Derived.Test.YtikejmokejghcaaGreatDoorGaRun
import Derived.WalkKit
import Derived.ProofKit
namespace Go.Proofs.YtikejmokejghcaaGreatDoor
open Go.RowKit

namespace Lex
def nameF (l : List UInt8) : Bool := !l.isEmpty && decide (l.length ≤ 12) && alphaB (c0 l) && decide (runLen nameB l = l.length) && !wordB l
theorem nameF_end {l : List UInt8} (h0 : l ≠ []) (h : l.length ≤ 12) (ha : alphaB (c0 l) = true) (hr : runLen nameB l = l.length) : nameF l = !wordB l := by
  have e : l.isEmpty = false := by simpa using h0
  simp [nameF, e, h, ha, hr]
theorem nameF_long {l : List UInt8} (h : ¬ l.length ≤ 12) : nameF l = false := by simp [nameF, h]
theorem nameF_first {l : List UInt8} (h : alphaB (c0 l) = false) : nameF l = false := by simp [nameF, h]
theorem nameF_run {l : List UInt8} (h : ¬ runLen nameB l = l.length) : nameF l = false := by simp [nameF, h]
theorem nameF_word {l : List UInt8} (h : wordB l = true) : nameF l = false := by simp [nameF, h]
end Lex
theorem one_byte (s : ByteArray) (a : Nat) (h : a < s.size) : s.extract a (a + 1) = ⟨#[s[a]]⟩ := by
  rw [Lex.ext_eq]
  have hl : a < s.data.toList.length := by simpa using h
  rw [List.drop_eq_getElem_cons hl]
  simp
  rfl

theorem name_end (s : ByteArray) (h0 : s.data.toList ≠ []) (h12 : ¬ 12 < s.size) (ha : Lex.alphaB (Lex.c0 s.data.toList) = true) (hr : Lex.runLen Lex.nameB s.data.toList = s.data.toList.length) : Lex.nameF s.data.toList = !Lex.wordB s.data.toList := by
  exact Lex.nameF_end h0 (by rw [Lex.len_of]; omega) ha hr

set_option maxHeartbeats 1000000 in
theorem scanName_any (s : ByteArray) (w : World) (hs : s.size ≤ 9223372036854775807) :
    Calls Tryz.prog 45 #[.string s] w fun e w' => e = .returned (.bool (Lex.nameF s.data.toList)) ∧ w' = w := by
  by_cases h0 : s.data.toList = []
  · have he : s.toList.isEmpty = true := by rw [Lex.list_of, h0]; rfl
    have hw : Lex.nameF s.data.toList = false := by rw [h0]; rfl
    rw [hw]
    clear h0 hw
    go_enter Tryz.func45, Tryz.ntmps45
    go_wp2
    go_ret
    exact ⟨rfl, rfl⟩
  · have he : s.toList.isEmpty = false := by rw [Lex.list_of]; simpa using h0
    have hp : 0 < s.size := by rw [← Lex.len_of]; exact List.length_pos_iff.2 h0
    by_cases h12 : 12 < s.size
    · have hw : Lex.nameF s.data.toList = false := Lex.nameF_long (by rw [Lex.len_of]; omega)
      rw [hw]
      have d : decide ((12 : Int) < (s.size : Int)) = true := by simp; omega
      clear h0 hw
      go_enter Tryz.func45, Tryz.ntmps45
      go_wp2
      go_ret
      exact ⟨rfl, rfl⟩
    · have d : decide ((12 : Int) < (s.size : Int)) = false := by simp; omega
      have hc0 := Lex.c0_of s hp
      cases ha : Lex.alphaB ((s[0].toNat : Nat) : Int)
      · have hw : Lex.nameF s.data.toList = false := Lex.nameF_first (by rw [hc0]; exact ha)
        rw [hw]
        clear h0 hw hc0
        go_enter Tryz.func45, Tryz.ntmps45
        go_wp2_with (go_at_call 56; refine (alpha_any _ _).mono ?_; rintro e w' ⟨rfl, rfl⟩)
        go_ret
        exact ⟨rfl, rfl⟩
      · by_cases hr : Lex.runLen Lex.nameB s.data.toList = s.data.toList.length
        · have hw := name_end s h0 h12 (by rw [hc0]; exact ha) hr
          have HR : Hid (s.extract 0 (Lex.runLen Lex.nameB s.data.toList) = s) := by
            show _ = _; rw [Lex.head_eq, hr, List.take_length]
          rw [hw]
          obtain ⟨b, hb⟩ : ∃ b, Lex.wordB s.data.toList = b := ⟨_, rfl⟩
          rw [hb]
          have HW : Hid (Lex.wordB s.toList = b) := by show _ = _; rw [Lex.list_of]; exact hb
          clear h0 hw hc0 hr hb
          go_enter Tryz.func45, Tryz.ntmps45
          go_wp2_with (first | (go_at_call 56; refine (alpha_any _ _).mono ?_; rintro e w' ⟨rfl, rfl⟩) | (go_at_call 54; refine (run_name _ _ (by omega)).mono ?_; rintro e w' ⟨rfl, rfl⟩; rw [HR.out]) | (go_at_call 71; refine (word_any _ _).mono ?_; rintro e w' ⟨rfl, rfl⟩; rw [HW.out]))
          go_ret
          exact ⟨rfl, rfl⟩
        · have hw : Lex.nameF s.data.toList = false := Lex.nameF_run hr
          have hne : (s.extract 0 (Lex.runLen Lex.nameB s.data.toList)).toList ≠ s.toList := by
            rw [Lex.list_of, Lex.list_of, Lib.extract_data]
            intro e; have := congrArg List.length e; simp at this
            have h1 := Lex.runLen_le Lex.nameB s.data.toList
            simp at h1 hr; omega
          have HN : ((s.extract 0 (Lex.runLen Lex.nameB s.data.toList)).toList == s.toList) = false := by simpa using hne
          rw [hw]
          clear h0 hw hc0 hr hne
          go_enter Tryz.func45, Tryz.ntmps45
          go_wp2_with (first | (go_at_call 56; refine (alpha_any _ _).mono ?_; rintro e w' ⟨rfl, rfl⟩) | (go_at_call 54; refine (run_name _ _ (by omega)).mono ?_; rintro e w' ⟨rfl, rfl⟩))
          go_ret
          exact ⟨rfl, rfl⟩
end Go.Proofs.YtikejmokejghcaaGreatDoor
