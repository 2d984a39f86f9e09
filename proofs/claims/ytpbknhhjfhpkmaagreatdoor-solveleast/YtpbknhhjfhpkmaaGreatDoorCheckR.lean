/- Contract of the document's own CheckChiefs. -/
import Derived.Test.YtpbknhhjfhpkmaaGreatDoorActsC
import Derived.Test.YtpbknhhjfhpkmaaGreatDoorGaName
import Derived.Maps.Own
import Derived.Maps.OwnOps
import Derived.Maps.OwnSet
import Derived.Maps.Views
namespace Go.Proofs.YtpbknhhjfhpkmaaGreatDoor
open Go.RowKit Go.Maps

theorem lawS : Keyed Tryz.prog 9 := string_keyed Tryz.underlying9
theorem zeroI (w : World) : (zeroValue 3).run Tryz.prog w = .ok (.int .i64 0) w := by kernel_rfl
def keyL (s : ByteArray) : Lit := .string s.data.toList
theorem keyL_of {s : ByteArray} (h : s.size ≤ maxLen) : keyOf Tryz.prog 9 (.string s) = some (keyL s) := WideMaps.keyOf_string_mk Tryz.underlying9 h
theorem keyL_ne {s t : ByteArray} (h : s ≠ t) : keyL s ≠ keyL t := by
  intro e
  unfold keyL at e
  injection e with e
  exact h (ByteArray.ext (Array.ext' e))
theorem keyL_lit (s : ByteArray) : WideAt.IsKeyLit (keyL s) := trivial
def cnt (seen : List ByteArray) (s : ByteArray) : Int := if Act.has seen s = true then 1 else 0
/- How often each has been seen. -/
def Counts (D : DataW Unit) (seen : List ByteArray) : Prop := ∀ s, D.atKey (keyL s) (.lit (.int .i64 0)) = .lit (.int .i64 (cnt seen s))
theorem counts_nil : Counts (.map []) [] := fun _ => rfl
theorem cnt_of {D : DataW Unit} {seen : List ByteArray} (h : Counts D seen) {s : ByteArray} {c : Int} (hc : D.atKey (keyL s) (.lit (.int .i64 0)) = .lit (.int .i64 c)) : c = cnt seen s := by
  rw [h s] at hc
  injection hc with hc
  injection hc with _ hc
  exact hc.symm
theorem counts_put {D : DataW Unit} {seen : List ByteArray} (hD : IsMap D) (h : Counts D seen) {s : ByteArray} (hs : Act.has seen s = false) : Counts (D.put (keyL s) (.lit (.int .i64 1))) (seen ++ [s]) := by
  intro t
  by_cases e : t = s
  · subst e
    rw [atKey_put_same hD (keyL_lit _)]
    have : Act.has (seen ++ [t]) t = true := Act.has_iff.2 (by simp)
    simp [cnt, this]
  · rw [atKey_put_other (keyL_ne e), h t]
    have : Act.has (seen ++ [s]) t = Act.has seen t := by
      rw [Bool.eq_iff_iff, Act.has_iff, Act.has_iff]; simp [e]
    simp [cnt, this]
theorem put_same {D : DataW Unit} (hD : IsMap D) {s : ByteArray} {x c : Int} (h : (D.put (keyL s) (.lit (.int .i64 x))).atKey (keyL s) (.lit (.int .i64 0)) = .lit (.int .i64 c)) : c = x := by
  rw [atKey_put_same hD (keyL_lit _)] at h
  injection h with h
  injection h with _ h
  exact h.symm

set_option maxHeartbeats 2000000 in
set_option maxRecDepth 100000 in
theorem checkR_any (ao po : Option Addr) (b off b' off' n m c d : Nat) (mx : Int) (ls : List ByteArray) (ps : List (ByteArray × ByteArray)) (w : World) (hc : Chiefs w ao po b off b' off' n m c ls ps) (hpz : ∀ p ∈ ps, p.1.size ≤ maxLen ∧ p.2.size ≤ maxLen) (hmx : w.cell? ⟨1, 0, none⟩ = some (.int .i64 mx)) :
    Calls Tryz.prog 24 #[.slice ao n c, .slice po m d] w fun e w' => e = .returned (.int .i64 (checkF ls ps)) ∧ Below w.heap.size w w' := by
  have HL : Hid (n = ls.length) := hc.ln
  have HM : Hid (m = ps.length) := hc.lm
  have ht := hc.strs
  have hp := hc.prs
  have hz := hc.sz
  have hnm := hc.mn
  have hmm := hc.mm
  unfold maxLen at hnm hmm
  have hn := hc.ln
  have hm := hc.lm
  clear hc
  by_cases hbig : 6 < n ∨ 10 < m
  · have HF : Hid (checkF ls ps = 2) := checkF_many (by omega)
    clear hn hm hz
    by_cases h6 : 6 < n
    · have d6 : decide ((6 : Int) < (n : Int)) = true := by simp; omega
      clear hbig
      go_enter Tryz.func24, Tryz.ntmps24
      go_wp2
      go_ret
      refine ⟨?_, Below.refl _ _⟩
      rw [HF.out]; rfl
    · have d6 : decide ((6 : Int) < (n : Int)) = false := by simp; omega
      have d10 : decide ((10 : Int) < (m : Int)) = true := by simp; omega
      clear hbig
      go_enter Tryz.func24, Tryz.ntmps24
      go_wp2
      go_ret
      refine ⟨?_, Below.refl _ _⟩
      rw [HF.out]; rfl
  · have d6 : decide ((6 : Int) < (n : Int)) = false := by simp; omega
    have d10 : decide ((10 : Int) < (m : Int)) = false := by simp; omega
    have HB : Hid (¬ (6 < ls.length ∨ 10 < ps.length)) := by show ¬ _; omega
    have HZ : Hid (∀ s ∈ ls, s.size ≤ maxLen) := hz
    have HPZ : Hid (∀ p ∈ ps, p.1.size ≤ maxLen ∧ p.2.size ≤ maxLen) := hpz
    have hn6 : n ≤ 6 := by omega
    have hm10 : m ≤ 10 := by omega
    have hgl : 1 < w.heap.size := World.block_lt_of_cell? w _ hmx
    have HMX : Hid (w.cell? ⟨1, 0, none⟩ = some (.int .i64 mx)) := hmx
    clear hbig hn hm hz hnm hmm hpz hmx
    have hmm := @run_makeMap Tryz.prog
    go_enter Tryz.func24, Tryz.ntmps24
    go_wp2
    obtain ⟨B, hB⟩ : ∃ B, B = w.heap.size := ⟨_, rfl⟩
    go_loopw [21] (fun i wr => ∃ k : Nat, k ≤ n ∧ i = .int .i64 k ∧ Hid (chkN (ls.take k) (ls.drop k) = chkN [] ls) ∧ Hid (∃ D : DataW Unit, wr.ownsMap Tryz.prog 9 (plainElem Tryz.prog 3) w.heap.size k D ∧ Counts D (ls.take k)) ∧ Hid (Below w.heap.size w wr)) (fun i _ => n - (intOf i).toNat)
    case atStart => exact ⟨0, Nat.zero_le _, rfl, by show _ = _; simp, ⟨_, World.ownsMap_made _ _ _ _, counts_nil⟩, (Below.refl _ _).alloc (Nat.le_refl _) _⟩
    case round =>
      obtain ⟨k, hk, rfl, HN, HMAP, HBW⟩ := hrel
      by_cases hlt : k < n
      · have hl0 := HL.out
        have hao := ht.adr (by omega)
        subst hao
        have hkl : k < ls.length := by omega
        have f0 := (ht.later HBW.out).cell k hkl
        have hz0 : ls[k].size ≤ maxLen := HZ.out _ (List.getElem_mem hkl)
        have hmx := (HBW.out.cell (p := ⟨1, 0, none⟩) hgl).trans HMX.out
        obtain ⟨x, hx⟩ : ∃ x, x = ls[k] := ⟨_, rfl⟩
        rw [← hx] at f0 hz0
        have HX : Hid (x = ls[k]) := hx
        have HZ0 : Hid (x.size ≤ maxLen) := hz0
        have HMW : Hid (wr.cell? ⟨1, 0, none⟩ = some (.int .i64 mx)) := hmx
        clear hl0 hx hz0 hmx
        cases hnm : Lex.nameF x.data.toList with
        | false =>
          have HE : Hid (checkF ls ps = 4) := by
            have e := chkN_form hkl (by rw [← HX.out]; exact hnm)
            rw [HN.out] at e
            show _ = _
            rw [checkF_n HB.out (by rw [e]; decide), e]
          have HNM : Hid (Lex.nameF x.data.toList = false) := hnm
          clear hnm
          go_wp2_with fail
          refine (isName_any x mx _ HZ0.out HMW.out).mono ?_
          rintro e w1 ⟨rfl, hb1⟩
          rw [HNM.out]
          go_wp2
          go_ret
          refine ⟨?_, HBW.out.trans (hb1.mono HBW.out.size)⟩
          rw [HE.out]; rfl
        | true =>
          have HNM : Hid (Lex.nameF x.data.toList = true) := hnm
          clear hnm
          obtain ⟨D, hown, hcts⟩ := HMAP.out
          have hkey := keyL_of HZ0.out
          go_wp2_with fail
          refine (isName_any x mx _ HZ0.out HMW.out).mono ?_
          rintro e w1 ⟨rfl, hb1⟩
          rw [HNM.out]
          have HOW : Hid (w1.ownsMap Tryz.prog 9 (plainElem Tryz.prog 3) w.heap.size k D) := hown.kept (row := none) ⟨hb1.os, hb1.tape, hb1.output, hb1.size, fun j hj _ => hb1.block j hj⟩ (by simp)
          have HCT : Hid (Counts D (ls.take k)) := hcts
          have HKEY : Hid (keyOf Tryz.prog 9 (.string x) = some (keyL x)) := hkey
          have HIM : Hid (IsMap D) := HOW.out.isMap
          have HB1 : Hid (Below w.heap.size w w1) := HBW.out.trans (hb1.mono HBW.out.size)
          clear hown hcts hkey hb1
          cases hh : Act.has (ls.take k) x with
          | true =>
            have HE : Hid (checkF ls ps = 6) := by
              have e := chkN_twice hkl (by rw [← HX.out]; exact HNM.out) (by rw [← HX.out]; exact hh)
              rw [HN.out] at e
              show _ = _
              rw [checkF_n HB.out (by rw [e]; decide), e]
            have HV : Hid (cnt (ls.take k) x = 1) := by show _ = _; simp [cnt, hh]
            clear hh
            go_wp2_with (first
              | (at_lookup; refine wpList_lookup_own_int _ rfl _ _ 72 rfl 9 3 .i64 lawS Tryz.underlying72 Tryz.underlying3 (zeroI _) w.heap.size k D rfl HOW.out _ _ rfl HKEY.out ?_; intro c0 hat0 hwc0; obtain rfl : c0 = 1 := (cnt_of HCT.out hat0).trans HV.out; clear hat0 hwc0)
              | (at_mapUpdate; refine wpList_mapUpdate_own _ rfl _ _ _ 72 rfl 9 3 lawS Tryz.underlying72 _ w.heap.size k D rfl HOW.out (by unfold maxLen; omega) _ _ _ rfl rfl HKEY.out _ [] (plainElem_int Tryz.underlying3 (by decide)) ?_; intro w2 hown2 hgrow2)
              | (at_lookup; refine wpList_lookup_own_int _ rfl _ _ 72 rfl 9 3 .i64 lawS Tryz.underlying72 Tryz.underlying3 (zeroI _) w.heap.size (k + 1) _ rfl hown2 _ _ rfl HKEY.out ?_; intro c1 hat1 hwc1; obtain rfl : c1 = 2 := put_same HIM.out hat1; clear hat1 hwc1))
            go_ret
            refine ⟨?_, HB1.out.grown hgrow2 HB1.out.size (fun j hj => by simp at hj; omega)⟩
            rw [HE.out]; rfl
          | false =>
            have HE : Hid (chkN (ls.take (k + 1)) (ls.drop (k + 1)) = chkN [] ls) := by
              show _ = _
              rw [← HN.out, chkN_step hkl (by rw [← HX.out]; exact HNM.out) (by rw [← HX.out]; exact hh)]
            have HV : Hid (cnt (ls.take k) x = 0) := by show _ = _; simp [cnt, hh]
            have HTK : Hid (ls.take (k + 1) = ls.take k ++ [x]) := by show _ = _; rw [List.take_succ_eq_append_getElem hkl, ← HX.out]
            have HHN : Hid (Act.has (ls.take k) x = false) := hh
            clear hh
            go_wp2_with (first
              | (at_lookup; refine wpList_lookup_own_int _ rfl _ _ 72 rfl 9 3 .i64 lawS Tryz.underlying72 Tryz.underlying3 (zeroI _) w.heap.size k D rfl HOW.out _ _ rfl HKEY.out ?_; intro c0 hat0 hwc0; obtain rfl : c0 = 0 := (cnt_of HCT.out hat0).trans HV.out; clear hat0 hwc0)
              | (at_mapUpdate; refine wpList_mapUpdate_own _ rfl _ _ _ 72 rfl 9 3 lawS Tryz.underlying72 _ w.heap.size k D rfl HOW.out (by unfold maxLen; omega) _ _ _ rfl rfl HKEY.out _ [] (plainElem_int Tryz.underlying3 (by decide)) ?_; intro w2 hown2 hgrow2)
              | (at_lookup; refine wpList_lookup_own_int _ rfl _ _ 72 rfl 9 3 .i64 lawS Tryz.underlying72 Tryz.underlying3 (zeroI _) w.heap.size (k + 1) _ rfl hown2 _ _ rfl HKEY.out ?_; intro c1 hat1 hwc1; obtain rfl : c1 = 1 := put_same HIM.out hat1; clear hat1 hwc1))
            have HN2 : Hid (∃ D : DataW Unit, w2.ownsMap Tryz.prog 9 (plainElem Tryz.prog 3) w.heap.size (k + 1) D ∧ Counts D (ls.take (k + 1))) := ⟨_, hown2, by rw [HTK.out]; exact counts_put HIM.out HCT.out HHN.out⟩
            have HB2 : Hid (Below w.heap.size w w2) := HB1.out.grown hgrow2 HB1.out.size (fun j hj => by simp at hj; omega)
            clear hown2 hgrow2
            go_roundw
            case rel => exact ⟨k + 1, by omega, by go_num, HE, HN2, HB2⟩
            case measure => simp [intOf]; omega
      · have HF : Hid (checkF ls ps = chkP ls ps) := by
          have e := HN.out
          rw [List.drop_of_length_le (by have := HL.out; omega)] at e
          exact checkF_p HB.out e.symm
        have HMAP2 : Hid (∃ D : DataW Unit, wr.ownsMap Tryz.prog 9 (plainElem Tryz.prog 3) w.heap.size k D ∧ Counts D ls) := by
          obtain ⟨D, h1, h2⟩ := HMAP.out
          rw [List.take_of_length_le (by have := HL.out; omega)] at h2
          exact ⟨D, h1, h2⟩
        clear HN HMAP
        obtain ⟨D, hownD, hctsD⟩ := HMAP2.out
        have HOW : Hid (wr.ownsMap Tryz.prog 9 (plainElem Tryz.prog 3) w.heap.size k D) := hownD
        have HCT : Hid (Counts D ls) := hctsD
        clear hownD hctsD HMAP2
        obtain ⟨wq, hq⟩ : ∃ wq, wq = wr := ⟨wr, rfl⟩
        subst hq
        go_wp2
        go_loopw [39] (fun i wx => ∃ j : Nat, j ≤ m ∧ i = .int .i64 j ∧ Hid (chkP ls (ps.drop j) = chkP ls ps) ∧ Hid (Below wq.heap.size wq wx)) (fun i _ => m - (intOf i).toNat)
        case atStart => exact ⟨0, Nat.zero_le _, rfl, by show _ = _; simp, Below.refl _ _⟩
        case round =>
          obtain ⟨j, hj, rfl, HN, HBX⟩ := hrel
          have HBB : Hid (Below w.heap.size w wr) := HBW.out.trans (HBX.out.mono HBW.out.size)
          by_cases hlt2 : j < m
          · have hl0 := HM.out
            have hpo := hp.adr (by omega)
            subst hpo
            have hjl : j < ps.length := by omega
            have hp' := hp.later HBB.out
            have f0 := hp'.c0 j hjl
            have f1 := hp'.c1 j hjl
            have hzz := HPZ.out _ (List.getElem_mem hjl)
            obtain ⟨x, hx⟩ : ∃ x, x = ps[j] := ⟨_, rfl⟩
            rw [← hx] at f0 f1 hzz
            obtain ⟨x1, x2⟩ := x
            have HX : Hid ((x1, x2) = ps[j]) := hx
            simp only at f0 f1 hzz
            have hbn : ∀ o, Below w.heap.size w (wr.alloc o) := fun o => HBB.out.alloc HBB.out.size o
            have hgw : wq.grownBy (wr.alloc (.cells #[.string x1, .string x2] 115)) none := by
              have h := HBX.out.alloc (Nat.le_trans (Nat.le_refl _) HBX.out.size) (.cells #[.string x1, .string x2] 115)
              exact ⟨h.os, h.tape, h.output, h.size, fun i hi _ => h.block i hi⟩
            have hown3 := HOW.out.kept hgw (by simp)
            obtain ⟨c1, run1, at1, _⟩ := hown3.lookup_int lawS Tryz.underlying72 Tryz.underlying3 (zeroI _) (keyL_of hzz.1)
            obtain ⟨c2, run2, at2, _⟩ := hown3.lookup_int lawS Tryz.underlying72 Tryz.underlying3 (zeroI _) (keyL_of hzz.2)
            have e1 := cnt_of HCT.out at1
            have e2 := cnt_of HCT.out at2
            have HBN : Hid (Below wq.heap.size wq (wr.alloc (.cells #[.string x1, .string x2] 115))) := HBX.out.alloc HBX.out.size _
            have HBN2 : Hid (Below w.heap.size w (wr.alloc (.cells #[.string x1, .string x2] 115))) := hbn _
            clear hl0 hx hp' hzz hbn hgw hown3 at1 at2
            cases h1 : Act.has ls x1 with
            | false =>
              have HE : Hid (checkF ls ps = 5) := by
                have e := chkP_who (ls := ls) hjl (by rw [← HX.out]; simp [h1])
                rw [HN.out] at e
                show _ = _
                rw [HF.out, e]
              have z1 : c1 = 0 := by rw [e1]; simp [cnt, h1]
              subst z1
              clear h1 e1 e2
              go_wp2
              go_ret
              refine ⟨?_, HBN2.out⟩
              rw [HE.out]; rfl
            | true =>
              have z1 : c1 = 1 := by rw [e1]; simp [cnt, h1]
              subst z1
              cases h2 : Act.has ls x2 with
              | false =>
                have HE : Hid (checkF ls ps = 5) := by
                  have e := chkP_who (ls := ls) hjl (by rw [← HX.out]; simp [h2])
                  rw [HN.out] at e
                  show _ = _
                  rw [HF.out, e]
                have z2 : c2 = 0 := by rw [e2]; simp [cnt, h2]
                subst z2
                clear h1 h2 e1 e2
                go_wp2
                go_ret
                refine ⟨?_, HBN2.out⟩
                rw [HE.out]; rfl
              | true =>
                have HE : Hid (chkP ls (ps.drop (j + 1)) = chkP ls ps) := by
                  show _ = _
                  rw [← HN.out, chkP_step hjl (by rw [← HX.out]; exact h1) (by rw [← HX.out]; exact h2)]
                have z2 : c2 = 1 := by rw [e2]; simp [cnt, h2]
                subst z2
                clear h1 h2 e1 e2
                go_wp2
                go_roundw
                case rel => exact ⟨j + 1, by omega, by go_num, HE, HBN⟩
                case measure => simp [intOf]; omega
          · have HE : Hid (checkF ls ps = 0) := by
              have e := HN.out
              rw [List.drop_of_length_le (by have := HM.out; omega)] at e
              show _ = _
              rw [HF.out, ← e, chkP]
            go_wp2
            go_ret
            refine ⟨?_, HBB.out⟩
            rw [HE.out]; rfl
end Go.Proofs.YtpbknhhjfhpkmaaGreatDoor
