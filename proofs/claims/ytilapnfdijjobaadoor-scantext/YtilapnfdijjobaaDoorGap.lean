/- Contract of scan.gap. -/
import Derived.Test.YtilapnfdijjobaaDoorFirst
namespace Go.Proofs.YtilapnfdijjobaaDoor
open Go.RowKit

theorem gapH_start (s : ByteArray) : Hid (Lex.gapF false s.data.toList = 0 + Lex.gapF false (s.data.toList.drop 0)) := by show _ = _; simp
theorem gapH_blank (s : ByteArray) (k : Nat) (h : k < s.size) (hb : Lex.blankB ((s[k].toNat : Nat) : Int) = true) (H : Hid (Lex.gapF false s.data.toList = k + Lex.gapF false (s.data.toList.drop k))) :
    Hid (Lex.gapF false s.data.toList = (k + 1) + Lex.gapF false (s.data.toList.drop (k + 1))) := by
  have := Lex.gap_blank s.data.toList k (by simpa using h) hb
  have := H.out; show _ = _; omega
theorem gapH_hash (s : ByteArray) (k : Nat) (h : k < s.size) (hb : Lex.blankB ((s[k].toNat : Nat) : Int) = false) (hc : (((s[k].toNat : Nat) : Int) == 35) = true) (n : Nat) (hn : n = Lex.runLen Lex.lineB (s.extract k s.size).data.toList) (H : Hid (Lex.gapF false s.data.toList = k + Lex.gapF false (s.data.toList.drop k))) :
    0 < n ∧ k + n ≤ s.size ∧ Hid (Lex.gapF false s.data.toList = (k + n) + Lex.gapF false (s.data.toList.drop (k + n))) := by
  have hl : k < s.data.toList.length := by simpa using h
  have h1 := Lex.gap_hash s.data.toList k hl hb hc
  have h2 := H.out
  rw [Lex.tail_list] at hn
  subst hn
  have h3 := Lex.runLen_le Lex.lineB (s.data.toList.drop k)
  rw [List.length_drop, Lex.len_of] at h3
  refine ⟨?_, by omega, show _ = _ by omega⟩
  rw [List.drop_eq_getElem_cons hl]
  have e : Lex.lineB ((s.data.toList[k].toNat : Nat) : Int) = true := by
    rw [show ((s.data.toList[k].toNat : Nat) : Int) = 35 from eq_of_beq hc]; rfl
  show 0 < if Lex.lineB ((s.data.toList[k].toNat : Nat) : Int) = true then _ else 0
  rw [if_pos e]; omega
theorem gapH_stop (s : ByteArray) (k : Nat) (h : k < s.size) (hb : Lex.blankB ((s[k].toNat : Nat) : Int) = false) (hc : (((s[k].toNat : Nat) : Int) == 35) = false) (H : Hid (Lex.gapF false s.data.toList = k + Lex.gapF false (s.data.toList.drop k))) : Hid (Lex.gapF false s.data.toList = k) := by
  have := Lex.gap_stop s.data.toList k (by simpa using h) hb hc
  have := H.out; show _ = _; omega
theorem gapH_end (s : ByteArray) (k : Nat) (h : s.size ≤ k) (H : Hid (Lex.gapF false s.data.toList = k + Lex.gapF false (s.data.toList.drop k))) : Hid (Lex.gapF false s.data.toList = k) := by
  have := Lex.gap_end s.data.toList k (by simpa using h)
  have := H.out; show _ = _; omega
theorem ret_nat {a b : Nat} (h : a = b) : Ending.returned (.int .i64 (a : Int)) = .returned (.int .i64 (b : Int)) := by rw [h]

set_option maxHeartbeats 1000000 in
theorem gap_any (s : ByteArray) (w : World) (hs : s.size ≤ 100000) :
    Calls Tryd.prog 45 #[.string s] w fun e w' => e = .returned (.int .i64 (Lex.gapF false s.data.toList : Nat)) ∧ w' = w := by
  go_enter Tryd.func45, Tryd.ntmps45
  go_wp2
  go_loop [3] (fun i => ∃ k : Nat, k ≤ s.size ∧ i = .int .i64 k ∧ Hid (Lex.gapF false s.data.toList = k + Lex.gapF false (s.data.toList.drop k))) (fun i => s.size - (intOf i).toNat)
  case atStart => exact ⟨0, Nat.zero_le _, rfl, gapH_start s⟩
  case round =>
    obtain ⟨k, hk, rfl, H⟩ := hrel
    by_cases hlt : k < s.size
    · cases hb : Lex.blankB ((s[k].toNat : Nat) : Int)
      · cases hc : (((s[k].toNat : Nat) : Int) == 35)
        · have HF := gapH_stop s k hlt hb hc H
          clear H
          go_wp2_with (go_at_call 64; refine (blank_any _ _).mono ?_; rintro e w' ⟨rfl, rfl⟩)
          go_ret
          exact ⟨ret_nat HF.out.symm, rfl⟩
        · have hsz : (s.extract k s.size).size ≤ 100000 := by rw [← Lex.len_of, Lex.tail_list, List.length_drop, Lex.len_of]; omega
          obtain ⟨n, hn⟩ : ∃ n, n = Lex.runLen Lex.lineB (s.extract k s.size).data.toList := ⟨_, rfl⟩
          obtain ⟨hp, hle, HT⟩ := gapH_hash s k hlt hb hc n hn H
          have HN : Hid (n = Lex.runLen Lex.lineB (s.extract k s.size).data.toList) := hn
          clear H hn
          go_wp2_with (first | (go_at_call 64; refine (blank_any _ _).mono ?_; rintro e w' ⟨rfl, rfl⟩) | (go_at_call 36; refine (run_line_t _ _ hsz).mono ?_; rintro e w' ⟨t, rfl, _, hq, hl, rfl⟩; rw [← HN.out] at hq; clear hl))
          go_round
          case rel => exact ⟨k + n, by omega, by go_num, HT⟩
          case measure => simp [intOf]; omega
      · have HT := gapH_blank s k hlt hb H
        clear H
        go_wp2_with (go_at_call 64; refine (blank_any _ _).mono ?_; rintro e w' ⟨rfl, rfl⟩)
        go_round
        case rel => exact ⟨k + 1, by omega, by go_num, HT⟩
        case measure => simp [intOf]; omega
    · have HF := gapH_end s k (by omega) H
      clear H
      go_wp2
      go_ret
      exact ⟨ret_nat HF.out.symm, rfl⟩
end Go.Proofs.YtilapnfdijjobaaDoor
