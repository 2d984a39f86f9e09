/- Contracts of the small functions of package scan: what sort of byte it is, and how far a run of such bytes goes. Contracts of scan.run at the three sorts of bytes. Contract of scan.Word. Contract of scan.sign. Contracts of scan.letters, digits and first. Contract of scan.gap. -/
import Derived.Test.YtcdeicfegfedfaaGreatDoorChecked
import Derived.Test.YtcdeicfegfedfaaGreatDoorGaLex
import Derived.WalkKit
import Derived.ProofKit
namespace Go.Proofs.YtcdeicfegfedfaaGreatDoor
open Go.RowKit

theorem blank_any (c : Int) (w : World) : Calls Tryz.prog 115 #[.int .u8 c] w fun e w' => e = .returned (.bool (Lex.blankB c)) ∧ w' = w := by
  by_cases h1 : c = 32
  · subst h1
    go_enter Tryz.func115, Tryz.ntmps115
    go_wp2
    go_ret
    exact ⟨rfl, rfl⟩
  · by_cases h2 : c = 9
    · subst h2
      go_enter Tryz.func115, Tryz.ntmps115
      go_wp2
      go_ret
      exact ⟨rfl, rfl⟩
    · have e1 : (c == 32) = false := by simp [h1]
      have e2 : (c == 9) = false := by simp [h2]
      have e3 : Lex.blankB c = (c == 10) := by simp [Lex.blankB, e1, e2]
      rw [e3]
      go_enter Tryz.func115, Tryz.ntmps115
      go_wp2
      go_ret
      exact ⟨rfl, rfl⟩

theorem line_any (c : Int) (w : World) : Calls Tryz.prog 117 #[.int .u8 c] w fun e w' => e = .returned (.bool (Lex.lineB c)) ∧ w' = w := by
  go_enter Tryz.func117, Tryz.ntmps117
  go_wp2
  go_ret
  exact ⟨rfl, rfl⟩

theorem digit_any (c : Int) (w : World) : Calls Tryz.prog 121 #[.int .u8 c] w fun e w' => e = .returned (.bool (Lex.digitB c)) ∧ w' = w := by
  by_cases h1 : 48 ≤ c
  · have e3 : Lex.digitB c = decide (c ≤ 57) := by simp [Lex.digitB, h1]
    rw [e3]
    go_enter Tryz.func121, Tryz.ntmps121
    go_wp2
    go_ret
    exact ⟨rfl, rfl⟩
  · have e3 : Lex.digitB c = false := by simp [Lex.digitB, h1]
    have e1 : decide (48 ≤ c) = false := by simp [h1]
    rw [e3]
    go_enter Tryz.func121, Tryz.ntmps121
    go_wp2
    go_ret
    exact ⟨rfl, rfl⟩

theorem alpha_any (c : Int) (w : World) : Calls Tryz.prog 118 #[.int .u8 c] w fun e w' => e = .returned (.bool (Lex.alphaB c)) ∧ w' = w := by
  by_cases h1 : 97 ≤ c
  · by_cases h2 : c ≤ 122
    · have e3 : Lex.alphaB c = true := by simp [Lex.alphaB]; omega
      rw [e3]
      go_enter Tryz.func118, Tryz.ntmps118
      go_wp2
      go_ret
      exact ⟨rfl, rfl⟩
    · have e3 : Lex.alphaB c = false := by simp [Lex.alphaB]; omega
      have e4 : (c == 95) = false := by simp; omega
      have e5 : ¬ c ≤ 90 := by omega
      have e6 : 65 ≤ c := by omega
      rw [e3]
      go_enter Tryz.func118, Tryz.ntmps118
      go_wp2
      go_ret
      exact ⟨rfl, rfl⟩
  · by_cases h3 : 65 ≤ c
    · by_cases h4 : c ≤ 90
      · have e3 : Lex.alphaB c = true := by simp [Lex.alphaB]; omega
        rw [e3]
        go_enter Tryz.func118, Tryz.ntmps118
        go_wp2
        go_ret
        exact ⟨rfl, rfl⟩
      · have e3 : Lex.alphaB c = (c == 95) := by rw [Bool.eq_iff_iff]; simp [Lex.alphaB]; omega
        rw [e3]
        go_enter Tryz.func118, Tryz.ntmps118
        go_wp2
        go_ret
        exact ⟨rfl, rfl⟩
    · have e3 : Lex.alphaB c = false := by simp [Lex.alphaB]; omega
      have e4 : (c == 95) = false := by simp; omega
      rw [e3]
      go_enter Tryz.func118, Tryz.ntmps118
      go_wp2
      go_ret
      exact ⟨rfl, rfl⟩

theorem name_any (c : Int) (w : World) : Calls Tryz.prog 120 #[.int .u8 c] w fun e w' => e = .returned (.bool (Lex.nameB c)) ∧ w' = w := by
  cases h : Lex.alphaB c
  · have e3 : Lex.nameB c = Lex.digitB c := by simp [Lex.nameB, h]
    rw [e3]
    go_enter Tryz.func120, Tryz.ntmps120
    go_wp2_with (first | (go_at_call 118; refine (alpha_any _ _).mono ?_; rintro e w' ⟨rfl, rfl⟩) | (go_at_call 121; refine (digit_any _ _).mono ?_; rintro e w' ⟨rfl, rfl⟩))
    go_ret
    exact ⟨rfl, rfl⟩
  · have e3 : Lex.nameB c = true := by simp [Lex.nameB, h]
    rw [e3]
    go_enter Tryz.func120, Tryz.ntmps120
    go_wp2_with (first | (go_at_call 118; refine (alpha_any _ _).mono ?_; rintro e w' ⟨rfl, rfl⟩) | (go_at_call 121; refine (digit_any _ _).mono ?_; rintro e w' ⟨rfl, rfl⟩))
    go_ret
    exact ⟨rfl, rfl⟩

end Go.Proofs.YtcdeicfegfedfaaGreatDoor

namespace Go.Proofs.YtcdeicfegfedfaaGreatDoor
open Go.RowKit

theorem ret_extract {s : ByteArray} {a b : Nat} (h : a = b) : Ending.returned (.string (s.extract 0 a)) = .returned (.string (s.extract 0 b)) := by rw [h]

set_option maxHeartbeats 400000 in
theorem run_line (s : ByteArray) (w : World) (hs : s.size ≤ 100000) :
    Calls Tryz.prog 116 #[.string s, .func (.func 117) #[] #[]] w fun e w' => e = .returned (.string (s.extract 0 (Lex.runLen Lex.lineB s.data.toList))) ∧ w' = w := by
  go_enter Tryz.func116, Tryz.ntmps116
  go_wp2
  go_loop [5] (fun i => ∃ k : Nat, k ≤ s.size ∧ i = .int .i64 k ∧ Hid (Lex.runLen Lex.lineB s.data.toList = k + Lex.runLen Lex.lineB (s.data.toList.drop k))) (fun i => s.size - (intOf i).toNat)
  case atStart => exact ⟨0, Nat.zero_le _, rfl, Lex.run_start _ _⟩
  case round =>
    obtain ⟨k, hk, rfl, H⟩ := hrel
    by_cases hlt : k < s.size
    · cases hp : Lex.lineB (s[k].toNat : Int)
      · have HF := Lex.run_no _ s k hlt hp H
        clear H
        go_wp2_with (go_at_call 117; refine (line_any _ _).mono ?_; rintro e w' ⟨rfl, rfl⟩)
        go_ret
        exact ⟨ret_extract HF.out.symm, rfl⟩
      · have HT := Lex.run_yes _ s k hlt hp H
        clear H
        go_wp2_with (go_at_call 117; refine (line_any _ _).mono ?_; rintro e w' ⟨rfl, rfl⟩)
        go_round
        case rel => exact ⟨k + 1, by omega, by go_num, HT⟩
        case measure => simp [intOf]; omega
    · have HF := Lex.run_stop _ s k (by omega) H
      clear H
      go_wp2
      go_ret
      exact ⟨ret_extract HF.out.symm, rfl⟩

set_option maxHeartbeats 400000 in
theorem run_name (s : ByteArray) (w : World) (hs : s.size ≤ 100000) :
    Calls Tryz.prog 116 #[.string s, .func (.func 120) #[] #[]] w fun e w' => e = .returned (.string (s.extract 0 (Lex.runLen Lex.nameB s.data.toList))) ∧ w' = w := by
  go_enter Tryz.func116, Tryz.ntmps116
  go_wp2
  go_loop [5] (fun i => ∃ k : Nat, k ≤ s.size ∧ i = .int .i64 k ∧ Hid (Lex.runLen Lex.nameB s.data.toList = k + Lex.runLen Lex.nameB (s.data.toList.drop k))) (fun i => s.size - (intOf i).toNat)
  case atStart => exact ⟨0, Nat.zero_le _, rfl, Lex.run_start _ _⟩
  case round =>
    obtain ⟨k, hk, rfl, H⟩ := hrel
    by_cases hlt : k < s.size
    · cases hp : Lex.nameB (s[k].toNat : Int)
      · have HF := Lex.run_no _ s k hlt hp H
        clear H
        go_wp2_with (go_at_call 120; refine (name_any _ _).mono ?_; rintro e w' ⟨rfl, rfl⟩)
        go_ret
        exact ⟨ret_extract HF.out.symm, rfl⟩
      · have HT := Lex.run_yes _ s k hlt hp H
        clear H
        go_wp2_with (go_at_call 120; refine (name_any _ _).mono ?_; rintro e w' ⟨rfl, rfl⟩)
        go_round
        case rel => exact ⟨k + 1, by omega, by go_num, HT⟩
        case measure => simp [intOf]; omega
    · have HF := Lex.run_stop _ s k (by omega) H
      clear H
      go_wp2
      go_ret
      exact ⟨ret_extract HF.out.symm, rfl⟩

set_option maxHeartbeats 400000 in
theorem run_digit (s : ByteArray) (w : World) (hs : s.size ≤ 100000) :
    Calls Tryz.prog 116 #[.string s, .func (.func 121) #[] #[]] w fun e w' => e = .returned (.string (s.extract 0 (Lex.runLen Lex.digitB s.data.toList))) ∧ w' = w := by
  go_enter Tryz.func116, Tryz.ntmps116
  go_wp2
  go_loop [5] (fun i => ∃ k : Nat, k ≤ s.size ∧ i = .int .i64 k ∧ Hid (Lex.runLen Lex.digitB s.data.toList = k + Lex.runLen Lex.digitB (s.data.toList.drop k))) (fun i => s.size - (intOf i).toNat)
  case atStart => exact ⟨0, Nat.zero_le _, rfl, Lex.run_start _ _⟩
  case round =>
    obtain ⟨k, hk, rfl, H⟩ := hrel
    by_cases hlt : k < s.size
    · cases hp : Lex.digitB (s[k].toNat : Int)
      · have HF := Lex.run_no _ s k hlt hp H
        clear H
        go_wp2_with (go_at_call 121; refine (digit_any _ _).mono ?_; rintro e w' ⟨rfl, rfl⟩)
        go_ret
        exact ⟨ret_extract HF.out.symm, rfl⟩
      · have HT := Lex.run_yes _ s k hlt hp H
        clear H
        go_wp2_with (go_at_call 121; refine (digit_any _ _).mono ?_; rintro e w' ⟨rfl, rfl⟩)
        go_round
        case rel => exact ⟨k + 1, by omega, by go_num, HT⟩
        case measure => simp [intOf]; omega
    · have HF := Lex.run_stop _ s k (by omega) H
      clear H
      go_wp2
      go_ret
      exact ⟨ret_extract HF.out.symm, rfl⟩

end Go.Proofs.YtcdeicfegfedfaaGreatDoor

namespace Go.Proofs.YtcdeicfegfedfaaGreatDoor
open Go.RowKit

set_option maxHeartbeats 1000000 in
theorem word_any (s : ByteArray) (w : World) :
    Calls Tryz.prog 129 #[.string s] w fun e w' => e = .returned (.bool (Lex.wordB s.toList)) ∧ w' = w := by
  go_enter Tryz.func129, Tryz.ntmps129
  go_wp2
  all_goals first
    | (exfalso; simp_all; done)
    | (go_ret; exact ⟨congrArg (fun b => Ending.returned (.bool b)) (Lex.word_yes (by assumption) rfl).symm, rfl⟩)
    | (go_ret; exact ⟨congrArg (fun b => Ending.returned (.bool b)) (show false = Lex.wordB s.toList by simp only [Lex.wordB, Bool.or_self, *]), rfl⟩)
end Go.Proofs.YtcdeicfegfedfaaGreatDoor

namespace Go.Proofs.YtcdeicfegfedfaaGreatDoor
open Go.RowKit

set_option maxHeartbeats 2000000 in
theorem sign_any (s : ByteArray) (w : World) (h0 : 0 < s.size) (hs : s.size ≤ 100000) :
    Calls Tryz.prog 123 #[.string s] w fun e w' => e = .returned (.string ⟨(Lex.signF s.data.toList).toArray⟩) ∧ w' = w := by
  by_cases h1 : 1 < s.size
  · go_enter Tryz.func123, Tryz.ntmps123
    go_wp2
    all_goals first
      | (exfalso; have hq := ‹((s.extract 0 2).toList == _) = true›; exact Lex.no_two hq (by assumption))
      | (exfalso; have hq := ‹(((s[0].toNat : Nat) : Int) == _) = true›; exact Lex.no_two hq (by assumption))
      | (have hq := ‹((s.extract 0 2).toList == _) = true›; go_ret; exact ⟨Lex.sign_two (Lex.two_yes hq rfl), rfl⟩)
      | (have hq := ‹(((s[0].toNat : Nat) : Int) == _) = true›; have hn := (Lex.two_no ‹((s.extract 0 2).toList == [38, 38]) = false› ‹((s.extract 0 2).toList == [124, 124]) = false› ‹((s.extract 0 2).toList == [61, 61]) = false› ‹((s.extract 0 2).toList == [33, 61]) = false› ‹((s.extract 0 2).toList == [60, 61]) = false› ‹((s.extract 0 2).toList == [62, 61]) = false›); go_ret; exact ⟨Lex.sign_one h0 hn (Lex.one_yes hq rfl), rfl⟩)
      | (have hq := (Lex.one_no ‹(((s[0].toNat : Nat) : Int) == 43) = false› ‹(((s[0].toNat : Nat) : Int) == 45) = false› ‹(((s[0].toNat : Nat) : Int) == 42) = false› ‹(((s[0].toNat : Nat) : Int) == 47) = false› ‹(((s[0].toNat : Nat) : Int) == 37) = false› ‹(((s[0].toNat : Nat) : Int) == 60) = false› ‹(((s[0].toNat : Nat) : Int) == 62) = false› ‹(((s[0].toNat : Nat) : Int) == 33) = false› ‹(((s[0].toNat : Nat) : Int) == 40) = false› ‹(((s[0].toNat : Nat) : Int) == 41) = false› ‹(((s[0].toNat : Nat) : Int) == 123) = false› ‹(((s[0].toNat : Nat) : Int) == 125) = false› ‹(((s[0].toNat : Nat) : Int) == 44) = false› ‹(((s[0].toNat : Nat) : Int) == 59) = false› ‹(((s[0].toNat : Nat) : Int) == 58) = false› ‹(((s[0].toNat : Nat) : Int) == 61) = false›); have hn := (Lex.two_no ‹((s.extract 0 2).toList == [38, 38]) = false› ‹((s.extract 0 2).toList == [124, 124]) = false› ‹((s.extract 0 2).toList == [61, 61]) = false› ‹((s.extract 0 2).toList == [33, 61]) = false› ‹((s.extract 0 2).toList == [60, 61]) = false› ‹((s.extract 0 2).toList == [62, 61]) = false›); go_ret; exact ⟨Lex.sign_no h0 hn hq, rfl⟩)
  · have h2 := Lex.two_short s h1
    go_enter Tryz.func123, Tryz.ntmps123
    go_wp2
    all_goals first
      | (exfalso; have hq := ‹(((s[0].toNat : Nat) : Int) == _) = true›; exact Lex.no_two hq (by assumption))
      | (have hq := ‹(((s[0].toNat : Nat) : Int) == _) = true›; go_ret; exact ⟨Lex.sign_one h0 h2 (Lex.one_yes hq rfl), rfl⟩)
      | (have hq := (Lex.one_no ‹(((s[0].toNat : Nat) : Int) == 43) = false› ‹(((s[0].toNat : Nat) : Int) == 45) = false› ‹(((s[0].toNat : Nat) : Int) == 42) = false› ‹(((s[0].toNat : Nat) : Int) == 47) = false› ‹(((s[0].toNat : Nat) : Int) == 37) = false› ‹(((s[0].toNat : Nat) : Int) == 60) = false› ‹(((s[0].toNat : Nat) : Int) == 62) = false› ‹(((s[0].toNat : Nat) : Int) == 33) = false› ‹(((s[0].toNat : Nat) : Int) == 40) = false› ‹(((s[0].toNat : Nat) : Int) == 41) = false› ‹(((s[0].toNat : Nat) : Int) == 123) = false› ‹(((s[0].toNat : Nat) : Int) == 125) = false› ‹(((s[0].toNat : Nat) : Int) == 44) = false› ‹(((s[0].toNat : Nat) : Int) == 59) = false› ‹(((s[0].toNat : Nat) : Int) == 58) = false› ‹(((s[0].toNat : Nat) : Int) == 61) = false›); go_ret; exact ⟨Lex.sign_no h0 h2 hq, rfl⟩)
end Go.Proofs.YtcdeicfegfedfaaGreatDoor

namespace Go.Proofs.YtcdeicfegfedfaaGreatDoor
open Go.RowKit

theorem cut_list (s : ByteArray) (n : Nat) : Hid ((s.extract 0 n).data.toList = s.data.toList.take n) := by show _ = _; rw [Lib.extract_data]; simp
theorem cut_size (s : ByteArray) (n : Nat) (h : n ≤ s.size) : (s.extract 0 n).size = n := by rw [← Lex.len_of, (cut_list s n).out, List.length_take, Lex.len_of]; omega
theorem cut_le (s : ByteArray) (n : Nat) : (s.extract 0 n).size ≤ s.size := by rw [← Lex.len_of, (cut_list s n).out, List.length_take, Lex.len_of]; omega
theorem run_line_t (s : ByteArray) (w : World) (hs : s.size ≤ 100000) :
    Calls Tryz.prog 116 #[.string s, .func (.func 117) #[] #[]] w fun e w' => ∃ t : ByteArray, e = .returned (.string t) ∧ Hid (t.data.toList = s.data.toList.take (Lex.runLen Lex.lineB s.data.toList)) ∧ t.size = Lex.runLen Lex.lineB s.data.toList ∧ t.size ≤ s.size ∧ w' = w :=
  (run_line s w hs).mono fun _ _ ⟨h1, h2⟩ => ⟨_, h1, cut_list s _, cut_size s _ (by rw [← Lex.len_of]; exact Lex.runLen_le _ _), cut_le s _, h2⟩
theorem run_name_t (s : ByteArray) (w : World) (hs : s.size ≤ 100000) :
    Calls Tryz.prog 116 #[.string s, .func (.func 120) #[] #[]] w fun e w' => ∃ t : ByteArray, e = .returned (.string t) ∧ Hid (t.data.toList = s.data.toList.take (Lex.runLen Lex.nameB s.data.toList)) ∧ t.size = Lex.runLen Lex.nameB s.data.toList ∧ t.size ≤ s.size ∧ w' = w :=
  (run_name s w hs).mono fun _ _ ⟨h1, h2⟩ => ⟨_, h1, cut_list s _, cut_size s _ (by rw [← Lex.len_of]; exact Lex.runLen_le _ _), cut_le s _, h2⟩
theorem run_digit_t (s : ByteArray) (w : World) (hs : s.size ≤ 100000) :
    Calls Tryz.prog 116 #[.string s, .func (.func 121) #[] #[]] w fun e w' => ∃ t : ByteArray, e = .returned (.string t) ∧ Hid (t.data.toList = s.data.toList.take (Lex.runLen Lex.digitB s.data.toList)) ∧ t.size = Lex.runLen Lex.digitB s.data.toList ∧ t.size ≤ s.size ∧ w' = w :=
  (run_digit s w hs).mono fun _ _ ⟨h1, h2⟩ => ⟨_, h1, cut_list s _, cut_size s _ (by rw [← Lex.len_of]; exact Lex.runLen_le _ _), cut_le s _, h2⟩

theorem letters_any (s : ByteArray) (w : World) (hs : s.size ≤ 100000) :
    Calls Tryz.prog 119 #[.string s] w fun e w' => e = Lex.Tri (Lex.lettersF s.data.toList) ∧ w' = w := by
  by_cases h : 12 < s.size
  · have H : Hid (Lex.lettersF s.data.toList = (0, [], 2)) := Lex.letters_many h
    go_enter Tryz.func119, Tryz.ntmps119
    go_wp2
    go_ret3
    exact ⟨Lex.tri_no H.out, rfl⟩
  · cases hw : Lex.wordB s.toList
    · have H : Hid (Lex.lettersF s.data.toList = (1, s.data.toList, 0)) := Lex.letters_name h hw
      go_enter Tryz.func119, Tryz.ntmps119
      go_wp2_with (go_at_call 129; refine (word_any _ _).mono ?_; rintro e w' ⟨rfl, rfl⟩)
      go_ret3
      exact ⟨Lex.tri_yes H.out, rfl⟩
    · have H : Hid (Lex.lettersF s.data.toList = (3, s.data.toList, 0)) := Lex.letters_word h hw
      go_enter Tryz.func119, Tryz.ntmps119
      go_wp2_with (go_at_call 129; refine (word_any _ _).mono ?_; rintro e w' ⟨rfl, rfl⟩)
      go_ret3
      exact ⟨Lex.tri_yes H.out, rfl⟩

theorem digits_any (s : ByteArray) (w : World) (h0 : 0 < s.size) (hs : s.size ≤ 100000) :
    Calls Tryz.prog 122 #[.string s] w fun e w' => e = Lex.Tri (Lex.digitsF s.data.toList) ∧ w' = w := by
  by_cases h9 : 9 < s.size
  · have H : Hid (Lex.digitsF s.data.toList = (0, [], 3)) := Lex.digits_many h9
    have e9 : (9 : Int) < (s.size : Int) := by omega
    go_enter Tryz.func122, Tryz.ntmps122
    go_wp2
    go_ret3
    exact ⟨Lex.tri_no H.out, rfl⟩
  · have d9 : decide ((9 : Int) < (s.size : Int)) = false := by simp; omega
    by_cases h1 : 1 < s.size
    · have e1 : (1 : Int) < (s.size : Int) := by omega
      cases hc : (((s[0].toNat : Nat) : Int) == 48)
      · have H : Hid (Lex.digitsF s.data.toList = (2, s.data.toList, 0)) := Lex.digits_other h9 h1 hc
        go_enter Tryz.func122, Tryz.ntmps122
        go_wp2
        go_ret3
        exact ⟨Lex.tri_yes H.out, rfl⟩
      · have H : Hid (Lex.digitsF s.data.toList = (0, [], 3)) := Lex.digits_nought h1 hc
        go_enter Tryz.func122, Tryz.ntmps122
        go_wp2
        go_ret3
        exact ⟨Lex.tri_no H.out, rfl⟩
    · have H : Hid (Lex.digitsF s.data.toList = (2, s.data.toList, 0)) := Lex.digits_one h1
      have d1 : decide ((1 : Int) < (s.size : Int)) = false := by simp; omega
      go_enter Tryz.func122, Tryz.ntmps122
      go_wp2
      go_ret3
      exact ⟨Lex.tri_yes H.out, rfl⟩

theorem tri_open {r : Int × List UInt8 × Int} {w : World} {e : Ending} {w' : World} (h : e = Lex.Tri r ∧ w' = w) :
    ∃ (k : Int) (t : ByteArray) (c : Int), e = .returned (.tuple #[.int .i64 k, .string t, .int .i64 c]) ∧ Hid (r = (k, t.data.toList, c)) ∧ w' = w :=
  ⟨r.1, ⟨r.2.1.toArray⟩, r.2.2, h.1, show _ = _ by simp, h.2⟩
theorem tri_shut {r : Int × List UInt8 × Int} {k c : Int} {t : ByteArray} (h : r = (k, t.data.toList, c)) : Ending.returned (.tuple #[.int .i64 k, .string t, .int .i64 c]) = Lex.Tri r := by rw [h]; rfl
theorem sign_t (s : ByteArray) (w : World) (h0 : 0 < s.size) (hs : s.size ≤ 100000) :
    Calls Tryz.prog 123 #[.string s] w fun e w' => ∃ t : ByteArray, e = .returned (.string t) ∧ Hid (t.data.toList = Lex.signF s.data.toList) ∧ t.toList.isEmpty = (Lex.signF s.data.toList).isEmpty ∧ w' = w :=
  (sign_any s w h0 hs).mono fun _ _ ⟨h1, h2⟩ => ⟨_, h1, show _ = _ by simp, by simp, h2⟩

set_option maxHeartbeats 1000000 in
theorem first_any (s : ByteArray) (w : World) (h0 : 0 < s.size) (hs : s.size ≤ 100000) :
    Calls Tryz.prog 79 #[.string s] w fun e w' => e = Lex.Tri (Lex.firstF s.data.toList) ∧ w' = w := by
  have hc0 := Lex.c0_of s h0
  cases ha : Lex.alphaB ((s[0].toNat : Nat) : Int)
  · cases hd : Lex.digitB ((s[0].toNat : Nat) : Int)
    · cases he : (Lex.signF s.data.toList).isEmpty
      · have H : Hid (Lex.firstF s.data.toList = (4, Lex.signF s.data.toList, 0)) := Lex.first_sign (by rw [hc0]; exact ha) (by rw [hc0]; exact hd) (by simpa using he)
        clear hc0
        go_enter Tryz.func79, Tryz.ntmps79
        go_wp2_with (first | (go_at_call 118; refine (alpha_any _ _).mono ?_; rintro e w' ⟨rfl, rfl⟩) | (go_at_call 121; refine (digit_any _ _).mono ?_; rintro e w' ⟨rfl, rfl⟩) | (go_at_call 123; refine (sign_t _ _ h0 hs).mono ?_; rintro e w' ⟨t, rfl, HT, hq, rfl⟩))
        go_ret3
        exact ⟨tri_shut (by rw [H.out, HT.out]), rfl⟩
      · have H : Hid (Lex.firstF s.data.toList = (0, [], 1)) := Lex.first_none (by rw [hc0]; exact ha) (by rw [hc0]; exact hd) (by simpa using he)
        clear hc0
        go_enter Tryz.func79, Tryz.ntmps79
        go_wp2_with (first | (go_at_call 118; refine (alpha_any _ _).mono ?_; rintro e w' ⟨rfl, rfl⟩) | (go_at_call 121; refine (digit_any _ _).mono ?_; rintro e w' ⟨rfl, rfl⟩) | (go_at_call 123; refine (sign_t _ _ h0 hs).mono ?_; rintro e w' ⟨t, rfl, HT, hq, rfl⟩))
        go_ret3
        exact ⟨Lex.tri_no H.out, rfl⟩
    · have H : Hid (Lex.firstF s.data.toList = Lex.digitsF (s.data.toList.take (Lex.runLen Lex.digitB s.data.toList))) := Lex.first_digit (by rw [hc0]; exact ha) (by rw [hc0]; exact hd)
      have hr := Lex.run_pos Lex.digitB s h0 hd
      clear hc0
      go_enter Tryz.func79, Tryz.ntmps79
      go_wp2_with (first | (go_at_call 118; refine (alpha_any _ _).mono ?_; rintro e w' ⟨rfl, rfl⟩) | (go_at_call 121; refine (digit_any _ _).mono ?_; rintro e w' ⟨rfl, rfl⟩) | (go_at_call 116; refine (run_digit_t _ _ hs).mono ?_; rintro e w' ⟨t, rfl, HT, hq, hl, rfl⟩) | (go_at_call 122; refine Calls.mono (digits_any _ _ (by omega) (by omega)) ?_; intro e w' hh; obtain ⟨k, t2, c, rfl, HR, rfl⟩ := tri_open hh))
      go_ret3
      exact ⟨tri_shut (by rw [H.out, ← HT.out]; exact HR.out), rfl⟩
  · have H : Hid (Lex.firstF s.data.toList = Lex.lettersF (s.data.toList.take (Lex.runLen Lex.nameB s.data.toList))) := Lex.first_alpha (by rw [hc0]; exact ha)
    clear hc0
    go_enter Tryz.func79, Tryz.ntmps79
    go_wp2_with (first | (go_at_call 118; refine (alpha_any _ _).mono ?_; rintro e w' ⟨rfl, rfl⟩) | (go_at_call 121; refine (digit_any _ _).mono ?_; rintro e w' ⟨rfl, rfl⟩) | (go_at_call 116; refine (run_name_t _ _ hs).mono ?_; rintro e w' ⟨t, rfl, HT, hq, hl, rfl⟩) | (go_at_call 119; refine Calls.mono (letters_any _ _ (by omega)) ?_; intro e w' hh; obtain ⟨k, t2, c, rfl, HR, rfl⟩ := tri_open hh))
    go_ret3
    exact ⟨tri_shut (by rw [H.out, ← HT.out]; exact HR.out), rfl⟩
end Go.Proofs.YtcdeicfegfedfaaGreatDoor

namespace Go.Proofs.YtcdeicfegfedfaaGreatDoor
open Go.RowKit

theorem gapH_start (s : ByteArray) : Hid (Lex.gapF false s.data.toList = 0 + Lex.gapF false (s.data.toList.drop 0)) := by show _ = _; simp
theorem gapH_blank (s : ByteArray) (k : Nat) (h : k < s.size) (hb : Lex.blankB ((s[k].toNat : Nat) : Int) = true) (H : Hid (Lex.gapF false s.data.toList = k + Lex.gapF false (s.data.toList.drop k))) :
    Hid (Lex.gapF false s.data.toList = (k + 1) + Lex.gapF false (s.data.toList.drop (k + 1))) := by
  have := Lex.gap_blank s.data.toList k (by simpa using h) hb
  have := H.out; show _ = _; omega
theorem gapH_hash (s : ByteArray) (k : Nat) (h : k < s.size) (hb : Lex.blankB ((s[k].toNat : Nat) : Int) = false) (hc : (((s[k].toNat : Nat) : Int) == 35) = true) (n : Nat) (hn : n = Lex.runLen Lex.lineB (s.extract k s.size).data.toList) (H : Hid (Lex.gapF false s.data.toList = k + Lex.gapF false (s.data.toList.drop k))) :
    0 < n ∧ k + n ≤ s.size ∧ Hid (Lex.gapF false s.data.toList = (k + n) + Lex.gapF false (s.data.toList.drop (k + n))) := by
  have hl : k < s.data.toList.length := by simpa using h
  have h1 := Lex.gap_hash s.data.toList k hl hb hc
  have h2 := H.out
  rw [Lex.tail_list] at hn
  subst hn
  have h3 := Lex.runLen_le Lex.lineB (s.data.toList.drop k)
  rw [List.length_drop, Lex.len_of] at h3
  refine ⟨?_, by omega, show _ = _ by omega⟩
  rw [List.drop_eq_getElem_cons hl]
  have e : Lex.lineB ((s.data.toList[k].toNat : Nat) : Int) = true := by
    rw [show ((s.data.toList[k].toNat : Nat) : Int) = 35 from eq_of_beq hc]; rfl
  show 0 < if Lex.lineB ((s.data.toList[k].toNat : Nat) : Int) = true then _ else 0
  rw [if_pos e]; omega
theorem gapH_stop (s : ByteArray) (k : Nat) (h : k < s.size) (hb : Lex.blankB ((s[k].toNat : Nat) : Int) = false) (hc : (((s[k].toNat : Nat) : Int) == 35) = false) (H : Hid (Lex.gapF false s.data.toList = k + Lex.gapF false (s.data.toList.drop k))) : Hid (Lex.gapF false s.data.toList = k) := by
  have := Lex.gap_stop s.data.toList k (by simpa using h) hb hc
  have := H.out; show _ = _; omega
theorem gapH_end (s : ByteArray) (k : Nat) (h : s.size ≤ k) (H : Hid (Lex.gapF false s.data.toList = k + Lex.gapF false (s.data.toList.drop k))) : Hid (Lex.gapF false s.data.toList = k) := by
  have := Lex.gap_end s.data.toList k (by simpa using h)
  have := H.out; show _ = _; omega
theorem ret_nat {a b : Nat} (h : a = b) : Ending.returned (.int .i64 (a : Int)) = .returned (.int .i64 (b : Int)) := by rw [h]

set_option maxHeartbeats 1000000 in
theorem gap_any (s : ByteArray) (w : World) (hs : s.size ≤ 100000) :
    Calls Tryz.prog 78 #[.string s] w fun e w' => e = .returned (.int .i64 (Lex.gapF false s.data.toList : Nat)) ∧ w' = w := by
  go_enter Tryz.func78, Tryz.ntmps78
  go_wp2
  go_loop [3] (fun i => ∃ k : Nat, k ≤ s.size ∧ i = .int .i64 k ∧ Hid (Lex.gapF false s.data.toList = k + Lex.gapF false (s.data.toList.drop k))) (fun i => s.size - (intOf i).toNat)
  case atStart => exact ⟨0, Nat.zero_le _, rfl, gapH_start s⟩
  case round =>
    obtain ⟨k, hk, rfl, H⟩ := hrel
    by_cases hlt : k < s.size
    · cases hb : Lex.blankB ((s[k].toNat : Nat) : Int)
      · cases hc : (((s[k].toNat : Nat) : Int) == 35)
        · have HF := gapH_stop s k hlt hb hc H
          clear H
          go_wp2_with (go_at_call 115; refine (blank_any _ _).mono ?_; rintro e w' ⟨rfl, rfl⟩)
          go_ret
          exact ⟨ret_nat HF.out.symm, rfl⟩
        · have hsz : (s.extract k s.size).size ≤ 100000 := by rw [← Lex.len_of, Lex.tail_list, List.length_drop, Lex.len_of]; omega
          obtain ⟨n, hn⟩ : ∃ n, n = Lex.runLen Lex.lineB (s.extract k s.size).data.toList := ⟨_, rfl⟩
          obtain ⟨hp, hle, HT⟩ := gapH_hash s k hlt hb hc n hn H
          have HN : Hid (n = Lex.runLen Lex.lineB (s.extract k s.size).data.toList) := hn
          clear H hn
          go_wp2_with (first | (go_at_call 115; refine (blank_any _ _).mono ?_; rintro e w' ⟨rfl, rfl⟩) | (go_at_call 116; refine (run_line_t _ _ hsz).mono ?_; rintro e w' ⟨t, rfl, _, hq, hl, rfl⟩; rw [← HN.out] at hq; clear hl))
          go_round
          case rel => exact ⟨k + n, by omega, by go_num, HT⟩
          case measure => simp [intOf]; omega
      · have HT := gapH_blank s k hlt hb H
        clear H
        go_wp2_with (go_at_call 115; refine (blank_any _ _).mono ?_; rintro e w' ⟨rfl, rfl⟩)
        go_round
        case rel => exact ⟨k + 1, by omega, by go_num, HT⟩
        case measure => simp [intOf]; omega
    · have HF := gapH_end s k (by omega) H
      clear H
      go_wp2
      go_ret
      exact ⟨ret_nat HF.out.symm, rfl⟩
end Go.Proofs.YtcdeicfegfedfaaGreatDoor
