/- Contracts of label.among, label.Check: for seats without checkBoth. -/
import Derived.Test.YtfhpmnghakhlkaaDoorOwnC
import Derived.Test.YtfhpmnghakhlkaaDoorLabE
import Derived.Test.YtfhpmnghakhlkaaDoorPolC
namespace Go.Proofs.YtfhpmnghakhlkaaDoor
open Go.RowKit

/- A label that came in: where it lies, how long its names are. -/
structure LabAt (w : World) (ao : Option Addr) (b off n c : Nat) (x : List Pol) : Prop where
  ln : n = x.length
  mn : n ≤ maxLen
  cap : n ≤ c
  pols : Pols w ao b off x
  sz : ∀ p ∈ x, p.1.size ≤ maxLen ∧ ∀ r ∈ p.2, r.size ≤ maxLen
theorem LabAt.later {w w' : World} {ao : Option Addr} {b off n c : Nat} {x : List Pol} (h : LabAt w ao b off n c x) (hb : Below w.heap.size w w') : LabAt w' ao b off n c x :=
  ⟨h.ln, h.mn, h.cap, h.pols.later hb, h.sz⟩

theorem all_step {ls l : List ByteArray} {k : Nat} (hk : k < l.length) (h : ∀ s ∈ l.take k, s ∈ ls) (g : l[k] ∈ ls) : ∀ s ∈ l.take (k + 1), s ∈ ls := by
  intro s hs
  rw [List.take_succ_eq_append_getElem hk, List.mem_append, List.mem_singleton] at hs
  rcases hs with hs | hs
  · exact h s hs
  · rw [hs]; exact g
theorem among_who {ls l : List ByteArray} (h : l.length ≤ 6) {s : ByteArray} (hs : s ∈ l) (hn : s ∉ ls) : amongF ls l = 5 := by
  unfold amongF
  rw [if_neg (by omega), if_neg]
  intro ha
  exact hn (Act.has_iff.1 (List.all_eq_true.1 ha s hs))

set_option maxRecDepth 100000 in
set_option maxHeartbeats 1000000 in
theorem among_any (ao vo : Option Addr) (b off b' off' n m c d : Nat) (ls l : List ByteArray) (w : World) (hn : n = ls.length) (hm : n ≤ maxLen) (hl : m = l.length) (hlm : m ≤ maxLen) (ht : Strs w ao b off ls) (hv : Strs w vo b' off' l) :
    Calls Tryd.prog 47 #[.slice ao n c, .slice vo m d] w fun e w' => e = .returned (.int .i64 (amongF ls l)) ∧ w' = w := by
  have HN : Hid (n = ls.length) := hn
  have HL : Hid (m = l.length) := hl
  have HM : Hid (n ≤ maxLen) := hm
  unfold maxLen at hlm
  by_cases h6 : 6 < m
  · have HF : Hid (amongF ls l = 2) := by show _ = _; unfold amongF; rw [if_pos (by omega)]
    clear hn hm hl
    go_enter Tryd.func47, Tryd.ntmps47
    go_wp2
    go_ret
    refine ⟨?_, rfl⟩
    rw [HF.out]; rfl
  · clear hn hm hl
    go_enter Tryd.func47, Tryd.ntmps47
    go_wp2
    go_loopw [12] (fun i wr => ∃ k : Nat, k ≤ m ∧ i = .int .i64 k ∧ Hid (∀ s ∈ l.take k, s ∈ ls) ∧ wr = w) (fun i _ => m - (intOf i).toNat)
    case atStart => exact ⟨0, Nat.zero_le _, rfl, by show ∀ s ∈ _, _; simp, rfl⟩
    case round =>
      obtain ⟨k, hk, rfl, HA, hw⟩ := hrel
      subst hw
      by_cases hlt : k < m
      · have hl0 := HL.out
        have hkl : k < l.length := by omega
        have hao := hv.adr (by omega)
        have f0 := hv.cell k hkl
        obtain ⟨x, hx⟩ : ∃ x, x = l[k] := ⟨_, rfl⟩
        rw [← hx] at f0
        have HX : Hid (x = l[k]) := hx
        have hct := contains_any ao b off n c ls x wr HN.out HM.out ht
        clear hl0 hx
        subst hao
        cases hh : Act.has ls x with
        | true =>
          rw [hh] at hct
          have HS : Hid (∀ s ∈ l.take (k + 1), s ∈ ls) := all_step hkl HA.out (by rw [← HX.out]; exact Act.has_iff.1 hh)
          clear hh
          go_wp2_with fail
          refine hct.mono ?_
          rintro e w1 ⟨rfl, hw⟩
          have hw' := hw.symm
          subst hw'
          go_wp2
          go_roundw
          case rel => exact ⟨k + 1, by omega, by go_num, HS, trivial⟩
          case measure => simp [intOf]; omega
        | false =>
          rw [hh] at hct
          have HF : Hid (amongF ls l = 5) := among_who (by have := HL.out; omega) (List.getElem_mem hkl) (by rw [← HX.out]; exact Act.has_not.1 hh)
          clear hh
          go_wp2_with fail
          refine hct.mono ?_
          rintro e w1 ⟨rfl, hw⟩
          have hw' := hw.symm
          subst hw'
          go_wp2
          go_ret
          refine ⟨?_, rfl⟩
          rw [HF.out]; rfl
      · have HF : Hid (amongF ls l = 0) := by
          have h := HA.out
          rw [List.take_of_length_le (by have := HL.out; omega)] at h
          exact among_of (by have := HL.out; omega) h
        go_wp2
        go_ret
        refine ⟨?_, rfl⟩
        rw [HF.out]; rfl

theorem chkL_step {ls : List ByteArray} {x : List Pol} {k : Nat} (hk : k < x.length) (h1 : amongF ls x[k].2 = 0) (h2 : Act.has ls x[k].1 = true) : chkL ls (x.drop k) = chkL ls (x.drop (k + 1)) := by
  rw [List.drop_eq_getElem_cons hk, chkL, if_pos h1, if_pos h2]
theorem chkL_owner {ls : List ByteArray} {x : List Pol} {k : Nat} (hk : k < x.length) (h1 : amongF ls x[k].2 = 0) (h2 : Act.has ls x[k].1 = false) : chkL ls (x.drop k) = 5 := by
  rw [List.drop_eq_getElem_cons hk, chkL, if_pos h1, if_neg (by rw [h2]; simp)]
theorem chkL_readers {ls : List ByteArray} {x : List Pol} {k : Nat} (hk : k < x.length) (h1 : amongF ls x[k].2 ≠ 0) : chkL ls (x.drop k) = amongF ls x[k].2 := by
  rw [List.drop_eq_getElem_cons hk, chkL, if_neg h1]

set_option maxRecDepth 100000 in
set_option maxHeartbeats 2000000 in
theorem checkLab (ao po lo : Option Addr) (b off b' off' n m c d lb loff ln lc : Nat) (ls : List ByteArray) (ps : List (ByteArray × ByteArray)) (x : List Pol) (w : World) (hc : Chiefs w ao po b off b' off' n m c ls ps) (hx : LabAt w lo lb loff ln lc x) :
    Calls Tryd.prog 34 #[.slice ao n c, .slice po m d, .slice lo ln lc] w fun e w' => e = .returned (.int .i64 (checkL ls ps x)) ∧ Below w.heap.size w w' := by
  have HC : Hid (Chiefs w ao po b off b' off' n m c ls ps) := hc
  have HX : Hid (LabAt w lo lb loff ln lc x) := hx
  have hlm := hx.mn
  unfold maxLen at hlm
  clear hc hx
  by_cases h0 : checkF ls ps = 0
  · have HZ : Hid (checkF ls ps = 0) := h0
    clear h0
    by_cases h200 : 200 < ln
    · have HF : Hid (checkL ls ps x = 2) := by show _ = _; unfold checkL; rw [if_pos HZ.out, if_pos (by have := HX.out.ln; omega)]
      go_enter Tryd.func34, Tryd.ntmps34
      go_wp2_with fail
      refine (check_of HC).mono ?_
      rintro e w1 ⟨rfl, hb1⟩
      rw [HZ.out]
      go_wp2
      go_ret
      refine ⟨?_, hb1⟩
      rw [HF.out]; rfl
    · have HF : Hid (checkL ls ps x = chkL ls x) := by show _ = _; unfold checkL; rw [if_pos HZ.out, if_neg (by have := HX.out.ln; omega)]
      rw [HF.out]
      go_enter Tryd.func34, Tryd.ntmps34
      go_wp2_with fail
      refine (check_of HC).mono ?_
      rintro e w1 ⟨rfl, hb1⟩
      rw [HZ.out]
      have HB1 : Hid (Below w.heap.size w w1) := hb1
      clear hb1 HF
      go_wp2
      go_loopw [22] (fun i wr => ∃ k : Nat, k ≤ ln ∧ i = .int .i64 k ∧ Hid (chkL ls (x.drop k) = chkL ls x) ∧ Hid (Below w.heap.size w wr)) (fun i _ => ln - (intOf i).toNat)
      case atStart => exact ⟨0, Nat.zero_le _, rfl, by show _ = _; simp, HB1⟩
      case round =>
        clear HB1
        obtain ⟨k, hk, rfl, HK, HB⟩ := hrel
        by_cases hlt : k < ln
        · have hl0 := HX.out.ln
          have hkl : k < x.length := by omega
          have hX := HX.out.later HB.out
          have hao := hX.pols.adr (by omega)
          have f0 := hX.pols.c0 k hkl
          obtain ⟨v, f1, hv⟩ := hX.pols.c1 k hkl
          obtain ⟨p, hp⟩ : ∃ p, p = x[k] := ⟨_, rfl⟩
          rw [← hp] at f0 hv
          obtain ⟨o, rs⟩ := p
          simp only at f0 hv
          have HP : Hid ((o, rs) = x[k]) := hp
          obtain ⟨ro, rb, roff, rc, hv1, hv2, hv3, hv4⟩ := hv
          subst hv1
          have hbn : Below w.heap.size w (wr.alloc (.cells #[.string o, .slice ro rs.length rc] 61)) := HB.out.alloc HB.out.size _
          have hb0 : Below wr.heap.size wr (wr.alloc (.cells #[.string o, .slice ro rs.length rc] 61)) := (Below.refl _ _).alloc (Nat.le_refl _) _
          have hC := HC.out.later hbn
          have ham := among_any ao ro b off rb roff n rs.length c rc ls rs (wr.alloc (.cells #[.string o, .slice ro rs.length rc] 61)) hC.ln hC.mn rfl (by omega) hC.strs (hv4.later hb0)
          have hct := contains_any ao b off n c ls o (wr.alloc (.cells #[.string o, .slice ro rs.length rc] 61)) hC.ln hC.mn hC.strs
          have HBN : Hid (Below w.heap.size w (wr.alloc (.cells #[.string o, .slice ro rs.length rc] 61))) := hbn
          obtain ⟨rn, hrn⟩ : ∃ rn, rn = rs.length := ⟨_, rfl⟩
          rw [← hrn] at f1 ham hct HBN
          clear hl0 hp hX hv2 hv3 hv4 hbn hb0 hC hrn
          subst hao
          by_cases ha : amongF ls rs = 0
          · rw [ha] at ham
            have HAM : Hid (amongF ls rs = 0) := ha
            clear ha
            cases hh : Act.has ls o with
            | true =>
              rw [hh] at hct
              have HS : Hid (chkL ls (x.drop (k + 1)) = chkL ls x) := by
                show _ = _
                rw [← HK.out, chkL_step hkl (by rw [← HP.out]; exact HAM.out) (by rw [← HP.out]; exact hh)]
              clear hh
              go_wp2_with fail
              refine ham.mono ?_
              rintro e w1 ⟨rfl, hw⟩
              have hw' := hw.symm
              subst hw'
              go_wp2_with fail
              refine hct.mono ?_
              rintro e w1 ⟨rfl, hw⟩
              have hw' := hw.symm
              subst hw'
              go_wp2
              go_roundw
              case rel => exact ⟨k + 1, by omega, by go_num, HS, HBN⟩
              case measure => simp [intOf]; omega
            | false =>
              rw [hh] at hct
              have HF : Hid (chkL ls x = 5) := by
                show _ = _
                rw [← HK.out, chkL_owner hkl (by rw [← HP.out]; exact HAM.out) (by rw [← HP.out]; exact hh)]
              clear hh
              go_wp2_with fail
              refine ham.mono ?_
              rintro e w1 ⟨rfl, hw⟩
              have hw' := hw.symm
              subst hw'
              go_wp2_with fail
              refine hct.mono ?_
              rintro e w1 ⟨rfl, hw⟩
              have hw' := hw.symm
              subst hw'
              go_wp2
              go_ret
              refine ⟨?_, HBN.out⟩
              rw [HF.out]; rfl
          · have HF : Hid (chkL ls x = amongF ls rs) := by
              show _ = _
              rw [← HK.out, chkL_readers hkl (by rw [← HP.out]; exact ha), ← HP.out]
            obtain ⟨e0, he0⟩ : ∃ e0, e0 = amongF ls rs := ⟨_, rfl⟩
            rw [← he0] at HF ham ha
            have hb : (e0 == 0) = false := by simp [ha]
            have hb' : (e0 != 0) = true := by simp [ha]
            clear he0 ha
            go_wp2_with fail
            refine ham.mono ?_
            rintro e w1 ⟨rfl, hw⟩
            have hw' := hw.symm
            subst hw'
            go_wp2
            go_ret
            refine ⟨?_, HBN.out⟩
            rw [HF.out]; rfl
        · have HF : Hid (chkL ls x = 0) := by
            have e := HK.out
            rw [List.drop_of_length_le (by have := HX.out.ln; omega)] at e
            show _ = _
            rw [← e]; rfl
          go_wp2
          go_ret
          refine ⟨?_, HB.out⟩
          rw [HF.out]; rfl
  · have HF : Hid (checkL ls ps x = checkF ls ps) := by show _ = _; unfold checkL; rw [if_neg h0]
    obtain ⟨e0, he0⟩ : ∃ e0, e0 = checkF ls ps := ⟨_, rfl⟩
    have HZ : Hid (checkF ls ps = e0) := he0.symm
    have hb : (e0 == 0) = false := by simp [he0, h0]
    have hb' : (e0 != 0) = true := by simp [he0, h0]
    rw [HF.out, HZ.out]
    clear HF h0 he0
    go_enter Tryd.func34, Tryd.ntmps34
    go_wp2_with fail
    refine (check_of HC).mono ?_
    rintro e w1 ⟨rfl, hb1⟩
    rw [HZ.out]
    go_wp2
    go_ret
    exact ⟨rfl, hb1⟩

end Go.Proofs.YtfhpmnghakhlkaaDoor
