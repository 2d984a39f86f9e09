/- Contracts of scan.letters, digits and first. -/
import Derived.Test.YtilapnfdijjobaaDoorRunB
import Derived.Test.YtilapnfdijjobaaDoorWord
import Derived.Test.YtilapnfdijjobaaDoorSign
import Derived.Test.YtilapnfdijjobaaDoorLexC
namespace Go.Proofs.YtilapnfdijjobaaDoor
open Go.RowKit

theorem cut_list (s : ByteArray) (n : Nat) : Hid ((s.extract 0 n).data.toList = s.data.toList.take n) := by show _ = _; rw [Lib.extract_data]; simp
theorem cut_size (s : ByteArray) (n : Nat) (h : n ≤ s.size) : (s.extract 0 n).size = n := by rw [← Lex.len_of, (cut_list s n).out, List.length_take, Lex.len_of]; omega
theorem cut_le (s : ByteArray) (n : Nat) : (s.extract 0 n).size ≤ s.size := by rw [← Lex.len_of, (cut_list s n).out, List.length_take, Lex.len_of]; omega
theorem run_line_t (s : ByteArray) (w : World) (hs : s.size ≤ 100000) :
    Calls Tryd.prog 36 #[.string s, .func (.func 65) #[] #[]] w fun e w' => ∃ t : ByteArray, e = .returned (.string t) ∧ Hid (t.data.toList = s.data.toList.take (Lex.runLen Lex.lineB s.data.toList)) ∧ t.size = Lex.runLen Lex.lineB s.data.toList ∧ t.size ≤ s.size ∧ w' = w :=
  (run_line s w hs).mono fun _ _ ⟨h1, h2⟩ => ⟨_, h1, cut_list s _, cut_size s _ (by rw [← Lex.len_of]; exact Lex.runLen_le _ _), cut_le s _, h2⟩
theorem run_name_t (s : ByteArray) (w : World) (hs : s.size ≤ 100000) :
    Calls Tryd.prog 36 #[.string s, .func (.func 37) #[] #[]] w fun e w' => ∃ t : ByteArray, e = .returned (.string t) ∧ Hid (t.data.toList = s.data.toList.take (Lex.runLen Lex.nameB s.data.toList)) ∧ t.size = Lex.runLen Lex.nameB s.data.toList ∧ t.size ≤ s.size ∧ w' = w :=
  (run_name s w hs).mono fun _ _ ⟨h1, h2⟩ => ⟨_, h1, cut_list s _, cut_size s _ (by rw [← Lex.len_of]; exact Lex.runLen_le _ _), cut_le s _, h2⟩
theorem run_digit_t (s : ByteArray) (w : World) (hs : s.size ≤ 100000) :
    Calls Tryd.prog 36 #[.string s, .func (.func 59) #[] #[]] w fun e w' => ∃ t : ByteArray, e = .returned (.string t) ∧ Hid (t.data.toList = s.data.toList.take (Lex.runLen Lex.digitB s.data.toList)) ∧ t.size = Lex.runLen Lex.digitB s.data.toList ∧ t.size ≤ s.size ∧ w' = w :=
  (run_digit s w hs).mono fun _ _ ⟨h1, h2⟩ => ⟨_, h1, cut_list s _, cut_size s _ (by rw [← Lex.len_of]; exact Lex.runLen_le _ _), cut_le s _, h2⟩

theorem letters_any (s : ByteArray) (w : World) (hs : s.size ≤ 100000) :
    Calls Tryd.prog 66 #[.string s] w fun e w' => e = Lex.Tri (Lex.lettersF s.data.toList) ∧ w' = w := by
  by_cases h : 12 < s.size
  · have H : Hid (Lex.lettersF s.data.toList = (0, [], 2)) := Lex.letters_many h
    go_enter Tryd.func66, Tryd.ntmps66
    go_wp2
    go_ret3
    exact ⟨Lex.tri_no H.out, rfl⟩
  · cases hw : Lex.wordB s.toList
    · have H : Hid (Lex.lettersF s.data.toList = (1, s.data.toList, 0)) := Lex.letters_name h hw
      go_enter Tryd.func66, Tryd.ntmps66
      go_wp2_with (go_at_call 10; refine (word_any _ _).mono ?_; rintro e w' ⟨rfl, rfl⟩)
      go_ret3
      exact ⟨Lex.tri_yes H.out, rfl⟩
    · have H : Hid (Lex.lettersF s.data.toList = (3, s.data.toList, 0)) := Lex.letters_word h hw
      go_enter Tryd.func66, Tryd.ntmps66
      go_wp2_with (go_at_call 10; refine (word_any _ _).mono ?_; rintro e w' ⟨rfl, rfl⟩)
      go_ret3
      exact ⟨Lex.tri_yes H.out, rfl⟩

theorem digits_any (s : ByteArray) (w : World) (h0 : 0 < s.size) (hs : s.size ≤ 100000) :
    Calls Tryd.prog 67 #[.string s] w fun e w' => e = Lex.Tri (Lex.digitsF s.data.toList) ∧ w' = w := by
  by_cases h9 : 9 < s.size
  · have H : Hid (Lex.digitsF s.data.toList = (0, [], 3)) := Lex.digits_many h9
    have e9 : (9 : Int) < (s.size : Int) := by omega
    go_enter Tryd.func67, Tryd.ntmps67
    go_wp2
    go_ret3
    exact ⟨Lex.tri_no H.out, rfl⟩
  · have d9 : decide ((9 : Int) < (s.size : Int)) = false := by simp; omega
    by_cases h1 : 1 < s.size
    · have e1 : (1 : Int) < (s.size : Int) := by omega
      cases hc : (((s[0].toNat : Nat) : Int) == 48)
      · have H : Hid (Lex.digitsF s.data.toList = (2, s.data.toList, 0)) := Lex.digits_other h9 h1 hc
        go_enter Tryd.func67, Tryd.ntmps67
        go_wp2
        go_ret3
        exact ⟨Lex.tri_yes H.out, rfl⟩
      · have H : Hid (Lex.digitsF s.data.toList = (0, [], 3)) := Lex.digits_nought h1 hc
        go_enter Tryd.func67, Tryd.ntmps67
        go_wp2
        go_ret3
        exact ⟨Lex.tri_no H.out, rfl⟩
    · have H : Hid (Lex.digitsF s.data.toList = (2, s.data.toList, 0)) := Lex.digits_one h1
      have d1 : decide ((1 : Int) < (s.size : Int)) = false := by simp; omega
      go_enter Tryd.func67, Tryd.ntmps67
      go_wp2
      go_ret3
      exact ⟨Lex.tri_yes H.out, rfl⟩

theorem tri_open {r : Int × List UInt8 × Int} {w : World} {e : Ending} {w' : World} (h : e = Lex.Tri r ∧ w' = w) :
    ∃ (k : Int) (t : ByteArray) (c : Int), e = .returned (.tuple #[.int .i64 k, .string t, .int .i64 c]) ∧ Hid (r = (k, t.data.toList, c)) ∧ w' = w :=
  ⟨r.1, ⟨r.2.1.toArray⟩, r.2.2, h.1, show _ = _ by simp, h.2⟩
theorem tri_shut {r : Int × List UInt8 × Int} {k c : Int} {t : ByteArray} (h : r = (k, t.data.toList, c)) : Ending.returned (.tuple #[.int .i64 k, .string t, .int .i64 c]) = Lex.Tri r := by rw [h]; rfl
theorem sign_t (s : ByteArray) (w : World) (h0 : 0 < s.size) (hs : s.size ≤ 100000) :
    Calls Tryd.prog 68 #[.string s] w fun e w' => ∃ t : ByteArray, e = .returned (.string t) ∧ Hid (t.data.toList = Lex.signF s.data.toList) ∧ t.toList.isEmpty = (Lex.signF s.data.toList).isEmpty ∧ w' = w :=
  (sign_any s w h0 hs).mono fun _ _ ⟨h1, h2⟩ => ⟨_, h1, show _ = _ by simp, by simp, h2⟩

set_option maxHeartbeats 1000000 in
theorem first_any (s : ByteArray) (w : World) (h0 : 0 < s.size) (hs : s.size ≤ 100000) :
    Calls Tryd.prog 46 #[.string s] w fun e w' => e = Lex.Tri (Lex.firstF s.data.toList) ∧ w' = w := by
  have hc0 := Lex.c0_of s h0
  cases ha : Lex.alphaB ((s[0].toNat : Nat) : Int)
  · cases hd : Lex.digitB ((s[0].toNat : Nat) : Int)
    · cases he : (Lex.signF s.data.toList).isEmpty
      · have H : Hid (Lex.firstF s.data.toList = (4, Lex.signF s.data.toList, 0)) := Lex.first_sign (by rw [hc0]; exact ha) (by rw [hc0]; exact hd) (by simpa using he)
        clear hc0
        go_enter Tryd.func46, Tryd.ntmps46
        go_wp2_with (first | (go_at_call 35; refine (alpha_any _ _).mono ?_; rintro e w' ⟨rfl, rfl⟩) | (go_at_call 59; refine (digit_any _ _).mono ?_; rintro e w' ⟨rfl, rfl⟩) | (go_at_call 68; refine (sign_t _ _ h0 hs).mono ?_; rintro e w' ⟨t, rfl, HT, hq, rfl⟩))
        go_ret3
        exact ⟨tri_shut (by rw [H.out, HT.out]), rfl⟩
      · have H : Hid (Lex.firstF s.data.toList = (0, [], 1)) := Lex.first_none (by rw [hc0]; exact ha) (by rw [hc0]; exact hd) (by simpa using he)
        clear hc0
        go_enter Tryd.func46, Tryd.ntmps46
        go_wp2_with (first | (go_at_call 35; refine (alpha_any _ _).mono ?_; rintro e w' ⟨rfl, rfl⟩) | (go_at_call 59; refine (digit_any _ _).mono ?_; rintro e w' ⟨rfl, rfl⟩) | (go_at_call 68; refine (sign_t _ _ h0 hs).mono ?_; rintro e w' ⟨t, rfl, HT, hq, rfl⟩))
        go_ret3
        exact ⟨Lex.tri_no H.out, rfl⟩
    · have H : Hid (Lex.firstF s.data.toList = Lex.digitsF (s.data.toList.take (Lex.runLen Lex.digitB s.data.toList))) := Lex.first_digit (by rw [hc0]; exact ha) (by rw [hc0]; exact hd)
      have hr := Lex.run_pos Lex.digitB s h0 hd
      clear hc0
      go_enter Tryd.func46, Tryd.ntmps46
      go_wp2_with (first | (go_at_call 35; refine (alpha_any _ _).mono ?_; rintro e w' ⟨rfl, rfl⟩) | (go_at_call 59; refine (digit_any _ _).mono ?_; rintro e w' ⟨rfl, rfl⟩) | (go_at_call 36; refine (run_digit_t _ _ hs).mono ?_; rintro e w' ⟨t, rfl, HT, hq, hl, rfl⟩) | (go_at_call 67; refine Calls.mono (digits_any _ _ (by omega) (by omega)) ?_; intro e w' hh; obtain ⟨k, t2, c, rfl, HR, rfl⟩ := tri_open hh))
      go_ret3
      exact ⟨tri_shut (by rw [H.out, ← HT.out]; exact HR.out), rfl⟩
  · have H : Hid (Lex.firstF s.data.toList = Lex.lettersF (s.data.toList.take (Lex.runLen Lex.nameB s.data.toList))) := Lex.first_alpha (by rw [hc0]; exact ha)
    clear hc0
    go_enter Tryd.func46, Tryd.ntmps46
    go_wp2_with (first | (go_at_call 35; refine (alpha_any _ _).mono ?_; rintro e w' ⟨rfl, rfl⟩) | (go_at_call 59; refine (digit_any _ _).mono ?_; rintro e w' ⟨rfl, rfl⟩) | (go_at_call 36; refine (run_name_t _ _ hs).mono ?_; rintro e w' ⟨t, rfl, HT, hq, hl, rfl⟩) | (go_at_call 66; refine Calls.mono (letters_any _ _ (by omega)) ?_; intro e w' hh; obtain ⟨k, t2, c, rfl, HR, rfl⟩ := tri_open hh))
    go_ret3
    exact ⟨tri_shut (by rw [H.out, ← HT.out]; exact HR.out), rfl⟩
end Go.Proofs.YtilapnfdijjobaaDoor
