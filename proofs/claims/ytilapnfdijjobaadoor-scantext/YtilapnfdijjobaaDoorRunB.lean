/- Contracts of scan.run at the three sorts of bytes. -/
import Derived.Test.YtilapnfdijjobaaDoorRun
namespace Go.Proofs.YtilapnfdijjobaaDoor
open Go.RowKit

theorem ret_extract {s : ByteArray} {a b : Nat} (h : a = b) : Ending.returned (.string (s.extract 0 a)) = .returned (.string (s.extract 0 b)) := by rw [h]

set_option maxHeartbeats 400000 in
theorem run_line (s : ByteArray) (w : World) (hs : s.size ≤ 100000) :
    Calls Tryd.prog 36 #[.string s, .func (.func 65) #[] #[]] w fun e w' => e = .returned (.string (s.extract 0 (Lex.runLen Lex.lineB s.data.toList))) ∧ w' = w := by
  go_enter Tryd.func36, Tryd.ntmps36
  go_wp2
  go_loop [5] (fun i => ∃ k : Nat, k ≤ s.size ∧ i = .int .i64 k ∧ Hid (Lex.runLen Lex.lineB s.data.toList = k + Lex.runLen Lex.lineB (s.data.toList.drop k))) (fun i => s.size - (intOf i).toNat)
  case atStart => exact ⟨0, Nat.zero_le _, rfl, Lex.run_start _ _⟩
  case round =>
    obtain ⟨k, hk, rfl, H⟩ := hrel
    by_cases hlt : k < s.size
    · cases hp : Lex.lineB (s[k].toNat : Int)
      · have HF := Lex.run_no _ s k hlt hp H
        clear H
        go_wp2_with (go_at_call 65; refine (line_any _ _).mono ?_; rintro e w' ⟨rfl, rfl⟩)
        go_ret
        exact ⟨ret_extract HF.out.symm, rfl⟩
      · have HT := Lex.run_yes _ s k hlt hp H
        clear H
        go_wp2_with (go_at_call 65; refine (line_any _ _).mono ?_; rintro e w' ⟨rfl, rfl⟩)
        go_round
        case rel => exact ⟨k + 1, by omega, by go_num, HT⟩
        case measure => simp [intOf]; omega
    · have HF := Lex.run_stop _ s k (by omega) H
      clear H
      go_wp2
      go_ret
      exact ⟨ret_extract HF.out.symm, rfl⟩

set_option maxHeartbeats 400000 in
theorem run_name (s : ByteArray) (w : World) (hs : s.size ≤ 100000) :
    Calls Tryd.prog 36 #[.string s, .func (.func 37) #[] #[]] w fun e w' => e = .returned (.string (s.extract 0 (Lex.runLen Lex.nameB s.data.toList))) ∧ w' = w := by
  go_enter Tryd.func36, Tryd.ntmps36
  go_wp2
  go_loop [5] (fun i => ∃ k : Nat, k ≤ s.size ∧ i = .int .i64 k ∧ Hid (Lex.runLen Lex.nameB s.data.toList = k + Lex.runLen Lex.nameB (s.data.toList.drop k))) (fun i => s.size - (intOf i).toNat)
  case atStart => exact ⟨0, Nat.zero_le _, rfl, Lex.run_start _ _⟩
  case round =>
    obtain ⟨k, hk, rfl, H⟩ := hrel
    by_cases hlt : k < s.size
    · cases hp : Lex.nameB (s[k].toNat : Int)
      · have HF := Lex.run_no _ s k hlt hp H
        clear H
        go_wp2_with (go_at_call 37; refine (name_any _ _).mono ?_; rintro e w' ⟨rfl, rfl⟩)
        go_ret
        exact ⟨ret_extract HF.out.symm, rfl⟩
      · have HT := Lex.run_yes _ s k hlt hp H
        clear H
        go_wp2_with (go_at_call 37; refine (name_any _ _).mono ?_; rintro e w' ⟨rfl, rfl⟩)
        go_round
        case rel => exact ⟨k + 1, by omega, by go_num, HT⟩
        case measure => simp [intOf]; omega
    · have HF := Lex.run_stop _ s k (by omega) H
      clear H
      go_wp2
      go_ret
      exact ⟨ret_extract HF.out.symm, rfl⟩

set_option maxHeartbeats 400000 in
theorem run_digit (s : ByteArray) (w : World) (hs : s.size ≤ 100000) :
    Calls Tryd.prog 36 #[.string s, .func (.func 59) #[] #[]] w fun e w' => e = .returned (.string (s.extract 0 (Lex.runLen Lex.digitB s.data.toList))) ∧ w' = w := by
  go_enter Tryd.func36, Tryd.ntmps36
  go_wp2
  go_loop [5] (fun i => ∃ k : Nat, k ≤ s.size ∧ i = .int .i64 k ∧ Hid (Lex.runLen Lex.digitB s.data.toList = k + Lex.runLen Lex.digitB (s.data.toList.drop k))) (fun i => s.size - (intOf i).toNat)
  case atStart => exact ⟨0, Nat.zero_le _, rfl, Lex.run_start _ _⟩
  case round =>
    obtain ⟨k, hk, rfl, H⟩ := hrel
    by_cases hlt : k < s.size
    · cases hp : Lex.digitB (s[k].toNat : Int)
      · have HF := Lex.run_no _ s k hlt hp H
        clear H
        go_wp2_with (go_at_call 59; refine (digit_any _ _).mono ?_; rintro e w' ⟨rfl, rfl⟩)
        go_ret
        exact ⟨ret_extract HF.out.symm, rfl⟩
      · have HT := Lex.run_yes _ s k hlt hp H
        clear H
        go_wp2_with (go_at_call 59; refine (digit_any _ _).mono ?_; rintro e w' ⟨rfl, rfl⟩)
        go_round
        case rel => exact ⟨k + 1, by omega, by go_num, HT⟩
        case measure => simp [intOf]; omega
    · have HF := Lex.run_stop _ s k (by omega) H
      clear H
      go_wp2
      go_ret
      exact ⟨ret_extract HF.out.symm, rfl⟩

end Go.Proofs.YtilapnfdijjobaaDoor
