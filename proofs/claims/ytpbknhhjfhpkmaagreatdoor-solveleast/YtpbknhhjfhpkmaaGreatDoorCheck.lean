/- Contract of chief.Check. -/
import Derived.Test.YtpbknhhjfhpkmaaGreatDoorNameC
import Derived.Test.YtpbknhhjfhpkmaaGreatDoorCStr
namespace Go.Proofs.YtpbknhhjfhpkmaaGreatDoor
open Go.RowKit

/- What is wrong with the chiefs; with the pairs; with both. -/
def chkN (seen : List ByteArray) : List ByteArray → Int
  | [] => 0
  | s :: r => if Lex.nameF s.data.toList = false then 4 else if Act.has seen s = true then 6 else chkN (seen ++ [s]) r
def chkP (ls : List ByteArray) : List (ByteArray × ByteArray) → Int
  | [] => 0
  | p :: r => if Act.has ls p.1 = true ∧ Act.has ls p.2 = true then chkP ls r else 5
def checkF (ls : List ByteArray) (ps : List (ByteArray × ByteArray)) : Int :=
  if 6 < ls.length ∨ 10 < ps.length then 2 else if chkN [] ls = 0 then chkP ls ps else chkN [] ls
theorem chkN_step {ls : List ByteArray} {k : Nat} (hk : k < ls.length) (h1 : Lex.nameF ls[k].data.toList = true) (h2 : Act.has (ls.take k) ls[k] = false) : chkN (ls.take k) (ls.drop k) = chkN (ls.take (k + 1)) (ls.drop (k + 1)) := by
  rw [List.drop_eq_getElem_cons hk, chkN, if_neg (by rw [h1]; simp), if_neg (by rw [h2]; simp), List.take_succ_eq_append_getElem hk]
theorem chkN_form {ls : List ByteArray} {k : Nat} (hk : k < ls.length) (h1 : Lex.nameF ls[k].data.toList = false) : chkN (ls.take k) (ls.drop k) = 4 := by
  rw [List.drop_eq_getElem_cons hk, chkN, if_pos h1]
theorem chkN_twice {ls : List ByteArray} {k : Nat} (hk : k < ls.length) (h1 : Lex.nameF ls[k].data.toList = true) (h2 : Act.has (ls.take k) ls[k] = true) : chkN (ls.take k) (ls.drop k) = 6 := by
  rw [List.drop_eq_getElem_cons hk, chkN, if_neg (by rw [h1]; simp), if_pos h2]
theorem chkP_step {ls : List ByteArray} {ps : List (ByteArray × ByteArray)} {k : Nat} (hk : k < ps.length) (h1 : Act.has ls ps[k].1 = true) (h2 : Act.has ls ps[k].2 = true) : chkP ls (ps.drop k) = chkP ls (ps.drop (k + 1)) := by
  rw [List.drop_eq_getElem_cons hk, chkP, if_pos ⟨h1, h2⟩]
theorem chkP_who {ls : List ByteArray} {ps : List (ByteArray × ByteArray)} {k : Nat} (hk : k < ps.length) (h : ¬ (Act.has ls ps[k].1 = true ∧ Act.has ls ps[k].2 = true)) : chkP ls (ps.drop k) = 5 := by
  rw [List.drop_eq_getElem_cons hk, chkP, if_neg h]
theorem checkF_many {ls : List ByteArray} {ps : List (ByteArray × ByteArray)} (h : 6 < ls.length ∨ 10 < ps.length) : checkF ls ps = 2 := by simp [checkF, h]
theorem checkF_n {ls : List ByteArray} {ps : List (ByteArray × ByteArray)} (h : ¬ (6 < ls.length ∨ 10 < ps.length)) (h' : chkN [] ls ≠ 0) : checkF ls ps = chkN [] ls := by rw [checkF, if_neg h, if_neg h']
theorem checkF_p {ls : List ByteArray} {ps : List (ByteArray × ByteArray)} (h : ¬ (6 < ls.length ∨ 10 < ps.length)) (h' : chkN [] ls = 0) : checkF ls ps = chkP ls ps := by rw [checkF, if_neg h, if_pos h']

set_option maxHeartbeats 1000000 in
theorem check_any (ao po : Option Addr) (b off b' off' n m c d : Nat) (ls : List ByteArray) (ps : List (ByteArray × ByteArray)) (w : World) (hn : n = ls.length) (hm : m = ps.length) (hnm : n ≤ maxLen) (hmm : m ≤ maxLen) (hc : n ≤ c)
    (ht : Strs w ao b off ls) (hp : Prs w po b' off' ps) (hz : ∀ s ∈ ls, s.size ≤ maxLen) :
    Calls Tryz.prog 44 #[.slice ao n c, .slice po m d] w fun e w' => e = .returned (.int .i64 (checkF ls ps)) ∧ Below w.heap.size w w' := by
  have HL : Hid (n = ls.length) := hn
  have HM : Hid (m = ps.length) := hm
  unfold maxLen at hnm hmm
  by_cases hbig : 6 < n ∨ 10 < m
  · have HF : Hid (checkF ls ps = 2) := checkF_many (by omega)
    clear hn hm hz
    by_cases h6 : 6 < n
    · have d6 : decide ((6 : Int) < (n : Int)) = true := by simp; omega
      clear hbig
      go_enter Tryz.func44, Tryz.ntmps44
      go_wp2
      go_ret
      refine ⟨?_, Below.refl _ _⟩
      rw [HF.out]; rfl
    · have d6 : decide ((6 : Int) < (n : Int)) = false := by simp; omega
      have d10 : decide ((10 : Int) < (m : Int)) = true := by simp; omega
      clear hbig
      go_enter Tryz.func44, Tryz.ntmps44
      go_wp2
      go_ret
      refine ⟨?_, Below.refl _ _⟩
      rw [HF.out]; rfl
  · have d6 : decide ((6 : Int) < (n : Int)) = false := by simp; omega
    have d10 : decide ((10 : Int) < (m : Int)) = false := by simp; omega
    have HB : Hid (¬ (6 < ls.length ∨ 10 < ps.length)) := by show ¬ _; omega
    have HZ : Hid (∀ s ∈ ls, s.size ≤ 9223372036854775807) := hz
    have hn6 : n ≤ 6 := by omega
    have hm10 : m ≤ 10 := by omega
    clear hbig hn hm hz hnm hmm
    go_enter Tryz.func44, Tryz.ntmps44
    go_wp2
    go_loopw [19] (fun i wr => ∃ k : Nat, k ≤ n ∧ i = .int .i64 k ∧ Hid (chkN (ls.take k) (ls.drop k) = chkN [] ls) ∧ wr = w) (fun i _ => n - (intOf i).toNat)
    case atStart => exact ⟨0, Nat.zero_le _, rfl, by show _ = _; simp, rfl⟩
    case round =>
      obtain ⟨k, hk, rfl, HN, hw⟩ := hrel
      subst hw
      by_cases hlt : k < n
      · have hl0 := HL.out
        have hao := ht.adr (by omega)
        subst hao
        have hkl : k < ls.length := by omega
        have f0 := ht.cell k hkl
        have hz0 : ls[k].size ≤ 9223372036854775807 := HZ.out _ (List.getElem_mem hkl)
        obtain ⟨x, hx⟩ : ∃ x, x = ls[k] := ⟨_, rfl⟩
        rw [← hx] at f0 hz0
        have HX : Hid (x = ls[k]) := hx
        clear hl0 hx
        cases hnm : Lex.nameF x.data.toList with
        | false =>
          have HE : Hid (checkF ls ps = 4) := by
            have e := chkN_form hkl (by rw [← HX.out]; exact hnm)
            rw [HN.out] at e
            show _ = _
            rw [checkF_n HB.out (by rw [e]; decide), e]
          have HNM : Hid (Lex.nameF x.data.toList = false) := hnm
          clear hnm
          go_wp2_with fail
          refine (scanName_any x _ hz0).mono ?_
          rintro e w1 ⟨rfl, hw⟩
          have hw' := hw.symm
          subst hw'
          rw [HNM.out]
          go_wp2
          go_ret
          refine ⟨?_, Below.refl _ _⟩
          rw [HE.out]; rfl
        | true =>
          have HNM : Hid (Lex.nameF x.data.toList = true) := hnm
          have hkc : k ≤ c := by omega
          clear hnm
          go_wp2_with fail
          refine (scanName_any x _ hz0).mono ?_
          rintro e w1 ⟨rfl, hw⟩
          have hw' := hw.symm
          subst hw'
          rw [HNM.out]
          go_wp2_with fail
          refine (contains_any _ b off k c (ls.take k) x _ (by simp; omega) (by unfold maxLen; omega) (ht.take k)).mono ?_
          rintro e w1 ⟨rfl, hw⟩
          have hw' := hw.symm
          subst hw'
          cases hh : Act.has (ls.take k) x with
          | true =>
            have HE : Hid (checkF ls ps = 6) := by
              have e := chkN_twice hkl (by rw [← HX.out]; exact HNM.out) (by rw [← HX.out]; exact hh)
              rw [HN.out] at e
              show _ = _
              rw [checkF_n HB.out (by rw [e]; decide), e]
            clear hh
            go_wp2
            go_ret
            refine ⟨?_, Below.refl _ _⟩
            rw [HE.out]; rfl
          | false =>
            have HE : Hid (chkN (ls.take (k + 1)) (ls.drop (k + 1)) = chkN [] ls) := by
              show _ = _
              rw [← HN.out, chkN_step hkl (by rw [← HX.out]; exact HNM.out) (by rw [← HX.out]; exact hh)]
            clear hh
            go_wp2
            go_roundw
            case rel => exact ⟨k + 1, by omega, by go_num, HE, trivial⟩
            case measure => simp [intOf]; omega
      · have HF : Hid (checkF ls ps = chkP ls ps) := by
          have e := HN.out
          rw [List.drop_of_length_le (by have := HL.out; omega)] at e
          exact checkF_p HB.out e.symm
        clear HN
        go_wp2
        obtain ⟨wq, hq⟩ : ∃ wq, wq = wr := ⟨wr, rfl⟩
        subst hq
        go_loopw [35] (fun i wx => ∃ j : Nat, j ≤ m ∧ i = .int .i64 j ∧ Hid (chkP ls (ps.drop j) = chkP ls ps) ∧ Below wq.heap.size wq wx) (fun i _ => m - (intOf i).toNat)
        case atStart => exact ⟨0, Nat.zero_le _, rfl, by show _ = _; simp, Below.refl _ _⟩
        case round =>
          obtain ⟨j, hj, rfl, HN, hbx⟩ := hrel
          have hle := hbx.size
          by_cases hlt2 : j < m
          · have hl0 := HM.out
            have hpo := hp.adr (by omega)
            subst hpo
            have hjl : j < ps.length := by omega
            have hp' := hp.later hbx
            have f0 := hp'.c0 j hjl
            have f1 := hp'.c1 j hjl
            obtain ⟨x, hx⟩ : ∃ x, x = ps[j] := ⟨_, rfl⟩
            rw [← hx] at f0 f1
            obtain ⟨x1, x2⟩ := x
            have HX : Hid ((x1, x2) = ps[j]) := hx
            simp only at f0 f1
            have hbn : ∀ o, Below wq.heap.size wq (wr.alloc o) := fun o => hbx.alloc hle o
            clear hl0 hx hp'
            cases h1 : Act.has ls x1 with
            | false =>
              have HE : Hid (checkF ls ps = 5) := by
                have e := chkP_who (ls := ls) hjl (by rw [← HX.out]; simp [h1])
                rw [HN.out] at e
                show _ = _
                rw [HF.out, e]
              have H1 : Hid (Act.has ls x1 = false) := h1
              clear h1
              go_wp2_with fail
              refine (contains_any _ b off n c ls x1 _ HL.out (by unfold maxLen; omega) (ht.later (hbn _))).mono ?_
              rintro e w1 ⟨rfl, hw⟩
              have hw' := hw.symm
              subst hw'
              rw [H1.out]
              go_wp2
              go_ret
              refine ⟨?_, hbn _⟩
              rw [HE.out]; rfl
            | true =>
              have H1 : Hid (Act.has ls x1 = true) := h1
              clear h1
              go_wp2_with fail
              refine (contains_any _ b off n c ls x1 _ HL.out (by unfold maxLen; omega) (ht.later (hbn _))).mono ?_
              rintro e w1 ⟨rfl, hw⟩
              have hw' := hw.symm
              subst hw'
              rw [H1.out]
              go_wp2_with fail
              refine (contains_any _ b off n c ls x2 _ HL.out (by unfold maxLen; omega) (ht.later (hbn _))).mono ?_
              rintro e w1 ⟨rfl, hw⟩
              have hw' := hw.symm
              subst hw'
              cases h2 : Act.has ls x2 with
              | false =>
                have HE : Hid (checkF ls ps = 5) := by
                  have e := chkP_who (ls := ls) hjl (by rw [← HX.out]; simp [h2])
                  rw [HN.out] at e
                  show _ = _
                  rw [HF.out, e]
                clear h2
                go_wp2
                go_ret
                refine ⟨?_, hbn _⟩
                rw [HE.out]; rfl
              | true =>
                have HE : Hid (chkP ls (ps.drop (j + 1)) = chkP ls ps) := by
                  show _ = _
                  rw [← HN.out, chkP_step hjl (by rw [← HX.out]; exact H1.out) (by rw [← HX.out]; exact h2)]
                clear h2
                go_wp2
                go_roundw
                case rel => exact ⟨j + 1, by omega, by go_num, HE, hbn _⟩
                case measure => simp [intOf]; omega
          · have HE : Hid (checkF ls ps = 0) := by
              have e := HN.out
              rw [List.drop_of_length_le (by have := HM.out; omega)] at e
              show _ = _
              rw [HF.out, ← e, chkP]
            go_wp2
            go_ret
            refine ⟨?_, hbx⟩
            rw [HE.out]; rfl
end Go.Proofs.YtpbknhhjfhpkmaaGreatDoor
