/- Contracts of the document's own CheckLabel, and of the law's badLabels. -/
import Derived.Test.YtfhpmnghakhlkaaDoorRefN
namespace Go.Proofs.YtfhpmnghakhlkaaDoor
open Go.RowKit

def chk1 (ls : List ByteArray) (x : List Pol) : Int := if 200 < x.length then 2 else chkL ls x
theorem among_cons {ls : List ByteArray} {o : ByteArray} {rs : List ByteArray} (h6 : ¬ 6 < rs.length) (h : ∀ s ∈ o :: rs, s ∈ ls) : amongF ls rs = 0 ∧ Act.has ls o = true :=
  ⟨among_of (by omega) fun s hs => h s (by simp [hs]), Act.has_iff.2 (h o (by simp))⟩
theorem chkL_bad {ls : List ByteArray} {x : List Pol} {k : Nat} (hk : k < x.length) (h6 : ¬ 6 < x[k].2.length) {s : ByteArray} (hs : s ∈ x[k].1 :: x[k].2) (hn : s ∉ ls) : chkL ls (x.drop k) = 5 := by
  by_cases ha : amongF ls x[k].2 = 0
  · refine chkL_owner hk ha (Act.has_not.2 ?_)
    rcases List.mem_cons.1 hs with e | e
    · rw [← e]; exact hn
    · exact absurd ((among_ok ha).2 s e) hn
  · rw [chkL_readers hk ha]
    rcases List.mem_cons.1 hs with e | e
    · unfold amongF at ha ⊢
      rw [if_neg h6] at ha ⊢
      by_cases hall : (x[k].2.all fun s => Act.has ls s) = true
      · rw [if_pos hall] at ha; exact absurd rfl ha
      · rw [if_neg hall]
    · exact among_who (by omega) e hn
theorem chkL_many {ls : List ByteArray} {x : List Pol} {k : Nat} (hk : k < x.length) (h6 : 6 < x[k].2.length) : chkL ls (x.drop k) = 2 := by
  have e : amongF ls x[k].2 = 2 := by unfold amongF; rw [if_pos h6]
  rw [chkL_readers hk (by rw [e]; decide), e]

set_option maxRecDepth 100000 in
set_option maxHeartbeats 2000000 in
theorem checkLabelR (ao lo : Option Addr) (b off n c lb loff ln lc : Nat) (ls : List ByteArray) (x : List Pol) (w : World) (hn : n = ls.length) (hm : n ≤ maxLen) (hs : Strs w ao b off ls) (hx : LabAt w lo lb loff ln lc x) :
    Calls Tryd.prog 14 #[.slice ao n c, .slice lo ln lc] w fun e w' => e = .returned (.int .i64 (chk1 ls x)) ∧ Below w.heap.size w w' := by
  have HN : Hid (n = ls.length) := hn
  have HM : Hid (n ≤ maxLen) := hm
  have HS : Hid (Strs w ao b off ls) := hs
  have HX : Hid (LabAt w lo lb loff ln lc x) := hx
  have hlm := hx.mn
  unfold maxLen at hlm
  clear hn hm hs hx
  by_cases h200 : 200 < ln
  · have HF : Hid (chk1 ls x = 2) := by show _ = _; unfold chk1; rw [if_pos (by have := HX.out.ln; omega)]
    rw [HF.out]
    go_enter Tryd.func14, Tryd.ntmps14
    go_wp2
    go_ret
    exact ⟨rfl, Below.refl _ _⟩
  · have HF : Hid (chk1 ls x = chkL ls x) := by show _ = _; unfold chk1; rw [if_neg (by have := HX.out.ln; omega)]
    rw [HF.out]
    clear HF
    go_enter Tryd.func14, Tryd.ntmps14
    go_wp2
    go_loopw [14] (fun i wr => ∃ k : Nat, k ≤ ln ∧ i = .int .i64 k ∧ Hid (chkL ls (x.drop k) = chkL ls x) ∧ Hid (Below w.heap.size w wr)) (fun i _ => ln - (intOf i).toNat)
    case atStart => exact ⟨0, Nat.zero_le _, rfl, by show _ = _; simp, Below.refl _ _⟩
    case round =>
      obtain ⟨k, hk, rfl, HK, HB⟩ := hrel
      by_cases hlt : k < ln
      · have hkl : k < x.length := by have := HX.out.ln; omega
        have hX := HX.out.later HB.out
        have hao := hX.pols.adr (by omega)
        have f0 := hX.pols.c0 k hkl
        obtain ⟨v, f1, hv⟩ := hX.pols.c1 k hkl
        have hmany := fun h => chkL_many (ls := ls) hkl h
        have hbad := fun (h : ¬ 6 < x[k].2.length) s (h1 : s ∈ x[k].1 :: x[k].2) h2 => chkL_bad (ls := ls) hkl h h1 h2
        have hgood := fun h1 h2 => chkL_step (ls := ls) hkl h1 h2
        obtain ⟨p, hp⟩ : ∃ p, p = x[k] := ⟨_, rfl⟩
        rw [← hp] at f0 hv
        simp only [← hp] at hmany hbad hgood
        obtain ⟨o, rs⟩ := p
        simp only at f0 hv hmany hbad hgood
        have hv0 := hv
        obtain ⟨ro, rb, roff, rc, hv1, hv2, hv3, _⟩ := hv0
        subst hv1
        obtain ⟨wy, hwy⟩ : ∃ wy, wy = wr.alloc (.cells #[.string o, .slice ro rs.length rc] 61) := ⟨_, rfl⟩
        have hby : Below wr.heap.size wr wy := by rw [hwy]; exact (Below.refl _ _).alloc (Nat.le_refl _) _
        have HBY : Hid (Below w.heap.size w wy) := HB.out.trans (hby.mono HB.out.size)
        unfold maxLen at hv3
        by_cases h6 : 6 < rs.length
        · have HE : Hid (chkL ls x = 2) := by show _ = _; rw [← HK.out]; exact hmany h6
          obtain ⟨rn, hrn⟩ : ∃ rn, rn = rs.length := ⟨_, rfl⟩
          rw [← hrn] at f1 hwy h6 hv2
          have HWY : Hid (wy = wr.alloc (.cells #[.string o, .slice ro rn rc] 61)) := hwy
          have i6 : decide ((6 : Int) < (rn : Int)) = true := by simp; omega
          clear hX hp hv hby hwy hmany hbad hgood hrn
          subst hao
          go_wp2
          go_ret
          refine ⟨?_, ?_⟩
          · rw [HE.out]; rfl
          · rw [← HWY.out]; exact HBY.out
        · obtain ⟨wz, hwz⟩ : ∃ wz, wz = wy.alloc (.cells #[.string o] 9) := ⟨_, rfl⟩
          have hbz : Below wy.heap.size wy wz := by rw [hwz]; exact (Below.refl _ _).alloc (Nat.le_refl _) _
          have k1 : wz.heap[wy.heap.size]? = some (.cells #[.string o] 9 (0, 0)) := by rw [hwz]; exact heap_at_alloc _ _ _ rfl
          have hyz : wy.heap.size = wr.heap.size + 1 := by rw [hwy]; simp
          have hbyz : Below wr.heap.size wr wz := hby.trans (hbz.mono hby.size)
          obtain ⟨v', w', hrun, hown, hgr⟩ := one_more o (.slice ro rs.length rc) rs wy.heap.size 22 wz k1 (hv.later hbyz) (by omega)
          have hbw0 : Below w.heap.size w wz := HB.out.trans (hbyz.mono HB.out.size)
          have HBW : Hid (Below w.heap.size w w') := hbw0.grown hgr hbw0.size (fun j hj => by simp at hj; have := HBY.out.size; omega)
          obtain ⟨ao', g, cap, hv', _, _, hss⟩ := strs_of_own hown
          subst hv'
          rw [hwz, hwy] at hrun
          rw [← hwy, hyz] at hrun
          rw [hwy] at hrun
          have HSS : Hid (Strs w' ao' g 0 (o :: rs)) := hss
          have hbad' := hbad h6
          have HBAD : Hid (∀ s, s ∈ o :: rs → s ∉ ls → chkL ls x = 5) := fun s h1 h2 => by rw [← HK.out]; exact hbad' s h1 h2
          have HGOOD : Hid ((∀ s ∈ o :: rs, s ∈ ls) → chkL ls (x.drop (k + 1)) = chkL ls x) := fun h => by
            obtain ⟨g1, g2⟩ := among_cons h6 h
            rw [← HK.out]; exact (hgood g1 g2).symm
          obtain ⟨q, hq⟩ : ∃ q, q = (o :: rs).length := ⟨_, rfl⟩
          obtain ⟨rn, hrn⟩ : ∃ rn, rn = rs.length := ⟨_, rfl⟩
          rw [← hq] at hrun
          rw [← hrn] at hrun f1 h6 hv2
          have HQ : Hid (q = (o :: rs).length) := hq
          have hq7 : q ≤ 7 := by rw [hq]; simp; omega
          have HRUN : Hid ((Builtin.append_ #[22, 22] 22 #[.slice (some ⟨wr.heap.size + 1, 0, none⟩) 1 1, .slice ro rn rc]).run Tryd.prog ((wr.alloc (.cells #[.string o, .slice ro rn rc] 61)).alloc (.cells #[.string o] 9)) = .ok (.slice ao' q cap) w') := hrun
          obtain ⟨row, hrow⟩ : ∃ row, row = o :: rs := ⟨_, rfl⟩
          rw [← hrow] at HSS HBAD HGOOD HQ
          have i6 : decide ((6 : Int) < (rn : Int)) = false := by simp; omega
          clear hX hp hv hby hwy hmany hbad hbad' hgood hrn hq hrow hrun hown hgr hss hbw0 hbz k1 hyz hbyz hwz HBY
          subst hao
          obtain ⟨wq, hwq⟩ : ∃ wq, wq = wr := ⟨wr, rfl⟩
          subst hwq
          go_wp2_with (at_builtin; refine Lib.wpList_append_run _ rfl _ _ _ _ rfl _ _ rfl rfl _ _ HRUN.out ?_)
          clear HRUN
          go_loopw [29] (fun i wx => ∃ j : Nat, j ≤ q ∧ i = .int .i64 j ∧ Hid (∀ s ∈ row.take j, s ∈ ls) ∧ wx = w') (fun i _ => q - (intOf i).toNat)
          case atStart => exact ⟨0, Nat.zero_le _, rfl, by show ∀ t ∈ _, _; simp, rfl⟩
          case round =>
            obtain ⟨j, hj, rfl, HA, hw⟩ := hrel
            subst hw
            by_cases hlt2 : j < q
            · have hjl : j < row.length := by have := HQ.out; omega
              have hro := HSS.out.adr (by omega)
              have g0 := HSS.out.cell j hjl
              rw [Nat.zero_add] at g0
              obtain ⟨s, hs⟩ : ∃ s, s = row[j] := ⟨_, rfl⟩
              rw [← hs] at g0
              have HSJ : Hid (s = row[j]) := hs
              have hct := contains_any ao b off n c ls s wr HN.out HM.out (HS.out.later HBW.out)
              clear hs
              subst hro
              cases hh : Act.has ls s with
              | true =>
                rw [hh] at hct
                have HA2 : Hid (∀ s ∈ row.take (j + 1), s ∈ ls) := all_step hjl HA.out (by rw [← HSJ.out]; exact Act.has_iff.1 hh)
                clear hh
                go_wp2_with fail
                refine hct.mono ?_
                rintro e w1 ⟨rfl, hw⟩
                have hw' := hw.symm
                subst hw'
                go_wp2
                go_roundw
                case rel => exact ⟨j + 1, by omega, by go_num, HA2, trivial⟩
                case measure => simp [intOf]; omega
              | false =>
                rw [hh] at hct
                have HE : Hid (chkL ls x = 5) := HBAD.out s (by rw [HSJ.out]; exact List.getElem_mem hjl) (Act.has_not.1 hh)
                clear hh
                go_wp2_with fail
                refine hct.mono ?_
                rintro e w1 ⟨rfl, hw⟩
                have hw' := hw.symm
                subst hw'
                go_wp2
                go_ret
                refine ⟨?_, HBW.out⟩
                rw [HE.out]; rfl
            · have HE : Hid (chkL ls (x.drop (k + 1)) = chkL ls x) := HGOOD.out (by
                have h := HA.out
                rwa [List.take_of_length_le (by have := HQ.out; omega)] at h)
              go_wp2
              go_roundw
              case rel => exact ⟨k + 1, by omega, by go_num, HE, HBW⟩
              case measure => simp [intOf]; omega
      · have HE : Hid (chkL ls x = 0) := by
          have e := HK.out
          rw [List.drop_of_length_le (by have := HX.out.ln; omega)] at e
          show _ = _
          rw [← e]; rfl
        go_wp2
        go_ret
        refine ⟨?_, HB.out⟩
        rw [HE.out]; rfl

/- The first error of some labels. -/
def badF (ls : List ByteArray) : List (List Pol) → Int
  | [] => 0
  | x :: r => if chk1 ls x = 0 then badF ls r else chk1 ls x
theorem bad_one (ls : List ByteArray) (ps : List (ByteArray × ByteArray)) (x : List Pol) : (if checkF ls ps = 0 then badF ls [x] else checkF ls ps) = checkL ls ps x := by
  unfold checkL badF badF chk1
  split
  · split <;> rename_i h <;> simp_all
  · rfl
theorem bad_two (ls : List ByteArray) (ps : List (ByteArray × ByteArray)) (x y : List Pol) : (if checkF ls ps = 0 then badF ls [x, y] else checkF ls ps) = bothL ls ps x y := by
  have e1 : ∀ z, checkF ls ps = 0 → checkL ls ps z = chk1 ls z := fun z h => by unfold checkL chk1; rw [if_pos h]
  by_cases h : checkF ls ps = 0
  · rw [if_pos h, bothL, e1 x h, e1 y h, badF, badF, badF]
    split
    · split <;> rename_i h <;> simp_all
    · rfl
  · have e2 : ∀ z, checkL ls ps z = checkF ls ps := fun z => by unfold checkL; rw [if_neg h]
    rw [if_neg h, bothL, e2 x, if_neg h]
/- Some labels in a row. -/
structure LabsAt (w : World) (sb : Nat) (q : Nat) (xs : List (List Pol)) : Prop where
  ln : q = xs.length
  lt : sb < w.heap.size
  at' : ∀ k (h : k < xs.length), ∃ lo lb loff ln lc, w.cell? ⟨sb, k, none⟩ = some (.slice lo ln lc) ∧ LabAt w lo lb loff ln lc xs[k]
theorem LabsAt.later {w w' : World} {sb q : Nat} {xs : List (List Pol)} (h : LabsAt w sb q xs) (hb : Below w.heap.size w w') : LabsAt w' sb q xs := by
  refine ⟨h.ln, Nat.lt_of_lt_of_le h.lt hb.size, fun k hk => ?_⟩
  obtain ⟨lo, lb, loff, ln, lc, h1, h2⟩ := h.at' k hk
  exact ⟨lo, lb, loff, ln, lc, (hb.cell (p := ⟨sb, k, none⟩) h.lt).trans h1, h2.later hb⟩
theorem badF_step {ls : List ByteArray} {xs : List (List Pol)} {k : Nat} (hk : k < xs.length) (h : chk1 ls xs[k] = 0) : badF ls (xs.drop k) = badF ls (xs.drop (k + 1)) := by
  rw [List.drop_eq_getElem_cons hk, badF, if_pos h]
theorem badF_hit {ls : List ByteArray} {xs : List (List Pol)} {k : Nat} (hk : k < xs.length) (h : chk1 ls xs[k] ≠ 0) : badF ls (xs.drop k) = chk1 ls xs[k] := by
  rw [List.drop_eq_getElem_cons hk, badF, if_neg h]

set_option maxRecDepth 100000 in
set_option maxHeartbeats 2000000 in
theorem badR (ao po : Option Addr) (b off b' off' n m c d sb q sc : Nat) (mx : Int) (ls : List ByteArray) (ps : List (ByteArray × ByteArray)) (xs : List (List Pol)) (w : World) (hc : Chiefs w ao po b off b' off' n m c ls ps) (hpz : ∀ p ∈ ps, p.1.size ≤ maxLen ∧ p.2.size ≤ maxLen) (hmx : w.cell? ⟨0, 0, none⟩ = some (.int .i64 mx)) (hx : LabsAt w sb q xs) (hq : q ≤ 2) :
    Calls Tryd.prog 19 #[.slice ao n c, .slice po m d, .slice (some ⟨sb, 0, none⟩) q sc] w fun e w' => e = .returned (.int .i64 (if checkF ls ps = 0 then badF ls xs else checkF ls ps)) ∧ Below w.heap.size w w' := by
  have h1 := checkR_any ao po b off b' off' n m c d mx ls ps w hc hpz hmx
  have HC : Hid (Chiefs w ao po b off b' off' n m c ls ps) := hc
  have HX : Hid (LabsAt w sb q xs) := hx
  clear hc hpz hmx hx
  by_cases h0 : checkF ls ps = 0
  · rw [if_pos h0]
    rw [h0] at h1
    clear h0
    go_enter Tryd.func19, Tryd.ntmps19
    go_wp2_with fail
    refine h1.mono ?_
    rintro e w1 ⟨rfl, hb1⟩
    have HB1 : Hid (Below w.heap.size w w1) := hb1
    clear h1 hb1
    go_wp2
    go_loopw [19] (fun i wr => ∃ k : Nat, k ≤ q ∧ i = .int .i64 k ∧ Hid (badF ls (xs.drop k) = badF ls xs) ∧ Hid (Below w.heap.size w wr)) (fun i _ => q - (intOf i).toNat)
    case atStart => exact ⟨0, Nat.zero_le _, rfl, by show _ = _; simp, HB1⟩
    case round =>
      clear HB1
      obtain ⟨k, hk, rfl, HK, HB⟩ := hrel
      by_cases hlt : k < q
      · have hkl : k < xs.length := by have := HX.out.ln; omega
        have hX := HX.out.later HB.out
        obtain ⟨lo, lb, loff, ln, lc, f0, hl⟩ := hX.at' k hkl
        have hsb := hX.lt
        have hC := HC.out.later HB.out
        have hcall := checkLabelR ao lo b off n c lb loff ln lc ls xs[k] wr hC.ln hC.mn hC.strs hl
        have hst := fun h => badF_step (ls := ls) hkl h
        have hhit := fun h => badF_hit (ls := ls) hkl h
        obtain ⟨e0, he0⟩ : ∃ e0, e0 = chk1 ls xs[k] := ⟨_, rfl⟩
        rw [← he0] at hcall hst hhit
        clear he0 hX hl hC
        by_cases hz : e0 = 0
        · have HE : Hid (badF ls (xs.drop (k + 1)) = badF ls xs) := by show _ = _; rw [← HK.out]; exact (hst hz).symm
          subst hz
          clear hst hhit
          go_wp2_with fail
          refine hcall.mono ?_
          rintro e w2 ⟨rfl, hb2⟩
          have HB2 : Hid (Below w.heap.size w w2) := HB.out.trans (hb2.mono HB.out.size)
          clear hb2
          go_wp2
          go_roundw
          case rel => exact ⟨k + 1, by omega, by go_num, HE, HB2⟩
          case measure => simp [intOf]; omega
        · have HE : Hid (badF ls xs = e0) := by show _ = _; rw [← HK.out]; exact hhit hz
          have bn : (e0 == 0) = false := by simp [hz]
          have bb : (e0 != 0) = true := by simp [hz]
          clear hst hhit hz
          go_wp2_with fail
          refine hcall.mono ?_
          rintro e w2 ⟨rfl, hb2⟩
          go_wp2
          go_ret
          refine ⟨?_, HB.out.trans (hb2.mono HB.out.size)⟩
          rw [HE.out]; rfl
      · have HE : Hid (badF ls xs = 0) := by
          have e := HK.out
          rw [List.drop_of_length_le (by have := HX.out.ln; omega)] at e
          show _ = _
          rw [← e]; rfl
        go_wp2
        go_ret
        refine ⟨?_, HB.out⟩
        rw [HE.out]; rfl
  · rw [if_neg h0]
    obtain ⟨e0, he0⟩ : ∃ e0, e0 = checkF ls ps := ⟨_, rfl⟩
    rw [← he0] at h1 h0 ⊢
    have bn : (e0 == 0) = false := by simp [h0]
    have bb : (e0 != 0) = true := by simp [h0]
    clear he0 h0
    go_enter Tryd.func19, Tryd.ntmps19
    go_wp2_with fail
    refine h1.mono ?_
    rintro e w1 ⟨rfl, hb1⟩
    go_wp2
    go_ret
    exact ⟨rfl, hb1⟩
end Go.Proofs.YtfhpmnghakhlkaaDoor
