/- The law ViewAlike, walked. -/
import Derived.Test.YtfhpmnghakhlkaaDoorViewed
import Derived.Test.YtfhpmnghakhlkaaDoorAlkC
import Derived.Test.YtfhpmnghakhlkaaDoorRefG
import Derived.Test.YtfhpmnghakhlkaaDoorSeeQ
namespace Go.Proofs.YtfhpmnghakhlkaaDoor
open Go.RowKit

set_option maxRecDepth 100000 in
set_option maxHeartbeats 4000000 in
theorem lawSees (S : Nat) (ao po lo co pro : Option Addr) (b off b' off' n m c d lb loff ln lc cn cc prn prc : Nat) (mx : Int) (ls : List ByteArray) (ps : List (ByteArray × ByteArray)) (who : ByteArray) (x : List Pol) (w : World) (hc : Chiefs w ao po b off b' off' n m c ls ps)
    (hpz : ∀ p ∈ ps, p.1.size ≤ maxLen ∧ p.2.size ≤ maxLen) (hmx : w.cell? ⟨0, 0, none⟩ = some (.int .i64 mx))
    (h0 : w.heap[S]? = some (.cells #[.slice ao n c, .slice po m d, .slice co cn cc, .slice pro prn prc] 46 (0, 0))) (h1 : w.heap[S + 1]? = some (.cells #[.string who] 9 (0, 0))) (hx : LabAt w lo lb loff ln lc x) :
    Calls Tryd.prog 18 #[.slice lo ln lc, .pointer (some ⟨S, 0, none⟩), .pointer (some ⟨S + 1, 0, none⟩)] w fun e w' => e = .returned (.tuple #[.bool (seesV ls ps who x), .int .i64 (seesE ls ps who x)]) ∧ Below w.heap.size w w' := by
  obtain ⟨wz, hwz⟩ : ∃ wz, wz = w.alloc (.cells #[.slice lo ln lc] 33) := ⟨_, rfl⟩
  have hbz : Below w.heap.size w wz := by rw [hwz]; exact (Below.refl _ _).alloc (Nat.le_refl _) _
  have kz : wz.heap[w.heap.size]? = some (.cells #[.slice lo ln lc] 33 (0, 0)) := by rw [hwz]; exact heap_at_alloc _ _ _ rfl
  have hbad := badR ao po b off b' off' n m c d w.heap.size 1 1 mx ls ps [x] wz (hc.later hbz) hpz ((hbz.cell (p := ⟨0, 0, none⟩) (World.block_lt_of_cell? w _ hmx)).trans hmx) (labs_oneV kz (hx.later hbz)) (by omega)
  rw [bad_one] at hbad
  have z0 : w.cell? ⟨S, 0, none⟩ = some (.slice ao n c) := by simp [World.cell?, h0]
  have z1 : w.cell? ⟨S, 1, none⟩ = some (.slice po m d) := by simp [World.cell?, h0]
  have HBZ : Hid (Below w.heap.size w wz) := hbz
  have HWZ : Hid (wz = w.alloc (.cells #[.slice lo ln lc] 33)) := hwz
  have HC : Hid (Chiefs wz ao po b off b' off' n m c ls ps) := hc.later hbz
  have HX : Hid (LabAt wz lo lb loff ln lc x) := hx.later hbz
  have HD : Hid (∀ W, Below wz.heap.size wz W → W.cell? ⟨S, 0, none⟩ = some (.slice ao n c) ∧ W.cell? ⟨S, 1, none⟩ = some (.slice po m d) ∧ W.cell? ⟨S + 1, 0, none⟩ = some (.string who) ∧ S < W.heap.size ∧ S + 1 < W.heap.size) := fun W hW => by
    have e0 := (hW.block _ (lt_of_block ((hbz.block _ (lt_of_block h0)).trans h0))).trans ((hbz.block _ (lt_of_block h0)).trans h0)
    have e1 := (hW.block _ (lt_of_block ((hbz.block _ (lt_of_block h1)).trans h1))).trans ((hbz.block _ (lt_of_block h1)).trans h1)
    exact ⟨by simp [World.cell?, e0], by simp [World.cell?, e0], by simp [World.cell?, e1], lt_of_block e0, lt_of_block e1⟩
  clear hc hx h0 h1 hpz hmx hbz hwz kz
  by_cases hk : checkL ls ps x = 0
  · have HK : Hid (checkL ls ps x = 0) := hk
    rw [hk] at hbad
    clear hk
    cases hh : Act.has ls who with
    | false =>
      have HV : Hid (seesE ls ps who x = 5) := by show _ = _; unfold seesE; rw [if_pos HK.out, if_neg (by rw [hh]; decide)]
      have HW : Hid (seesV ls ps who x = false) := by show _ = _; unfold seesV; rw [HV.out]; rfl
      rw [HV.out, HW.out]
      have HCT : Hid (∀ W, Below wz.heap.size wz W → Calls Tryd.prog 13 #[.slice ao n c, .string who] W fun e w' => e = .returned (.bool false) ∧ w' = W) := fun W hW => by
        have h := contains_any ao b off n c ls who W (HC.out.later hW).ln (HC.out.later hW).mn (HC.out.later hW).strs
        rw [hh] at h; exact h
      clear hh
      go_enter Tryd.func18, Tryd.ntmps18
      go_wp2_with fail
      rw [← HWZ.out]
      refine hbad.mono ?_
      rintro e w1 ⟨rfl, hb1⟩
      obtain ⟨y0, y1, y2, l0, l1⟩ := HD.out w1 hb1
      have hct := HCT.out w1 hb1
      have HB1 : Hid (Below w.heap.size w w1) := HBZ.out.trans (hb1.mono HBZ.out.size)
      clear hb1 hbad z0 z1
      go_wp2_with fail
      refine hct.mono ?_
      rintro e w2 ⟨rfl, hw⟩
      have hw' := hw.symm
      subst hw'
      go_wp2
      go_ret2
      exact ⟨rfl, HB1.out⟩
    | true =>
      have HV : Hid (seesE ls ps who x = 0) := by show _ = _; unfold seesE; rw [if_pos HK.out, if_pos hh]
      have HSH : Hid (Act.has (Lab.readsF ls ps x) who = seesV ls ps who x) := sees_hasQ HV.out
      rw [HV.out]
      have HCT : Hid (∀ W, Below wz.heap.size wz W → Calls Tryd.prog 13 #[.slice ao n c, .string who] W fun e w' => e = .returned (.bool true) ∧ w' = W) := fun W hW => by
        have h := contains_any ao b off n c ls who W (HC.out.later hW).ln (HC.out.later hW).mn (HC.out.later hW).strs
        rw [hh] at h; exact h
      obtain ⟨hck, _, _, _⟩ := checkL_ok HK.out
      have hn6 : n ≤ 6 := by have h1 := (right_of hck).1; have := HC.out.ln; omega
      have hc1 : chk1 ls x = 0 := by rw [← sees_chkQ hck hh x]; exact HV.out
      have HRD : Hid (∀ W, Below wz.heap.size wz W → Calls Tryd.prog 15 #[.slice ao n c, .slice po m d, .slice lo ln lc] W fun e w' => ∃ v, e = .returned v ∧ w'.ownsRow W.heap.size 9 1 v (Lab.readsF ls ps x).length (strC (Lab.readsF ls ps x)) ∧ Below wz.heap.size wz w') := fun W hW =>
        (readersR ao po lo b off b' off' n m c d lb loff ln lc ls ps x W HC.out.ln hn6 (HC.out.later hW).strs (pairs_ofV (HC.out.later hW) hck) (right_of hck).2.2.1 ((good_ofV HX.out hc1).later hW)).mono fun e w' ⟨v, h1, h2, h3⟩ => ⟨v, h1, h2, hW.trans (h3.mono hW.size)⟩
      have hrl : (Lab.readsF ls ps x).length ≤ maxLen := by
        have h1 := List.length_filter_le (fun c => Lab.readsB ls ps x c) ls
        have h2 := (right_of hck).1
        unfold Lab.readsF maxLen; omega
      have HRL : Hid ((Lab.readsF ls ps x).length ≤ maxLen) := hrl
      obtain ⟨t1, ht1⟩ : ∃ t1, t1 = seesV ls ps who x := ⟨_, rfl⟩
      rw [← ht1] at HSH ⊢
      clear hh hck hc1 hn6 ht1 hrl
      go_enter Tryd.func18, Tryd.ntmps18
      go_wp2_with fail
      rw [← HWZ.out]
      refine hbad.mono ?_
      rintro e w1 ⟨rfl, hb1⟩
      obtain ⟨y0, y1, y2, l0, l1⟩ := HD.out w1 hb1
      have hct := HCT.out w1 hb1
      have HB1 : Hid (Below wz.heap.size wz w1) := hb1
      clear hb1 hbad z0 z1 HCT HWZ
      go_wp2_with fail
      refine hct.mono ?_
      rintro e w2 ⟨rfl, hw⟩
      have hw' := hw.symm
      subst hw'
      clear hct
      go_upto_region 6 with fail
      go_region_with (first
        | (go_at_call 15; refine (HRD.out _ (by exact HB1.out.trans ((below_dr _).mono HB1.out.size))).mono ?_; rintro e w4 ⟨v4, rfl, hown4, hb4⟩; obtain ⟨xo4, g4, c4, hv4, _, _, ss4⟩ := strs_of_own hown4; subst hv4; obtain ⟨q0, q1, q2, m0, m1⟩ := HD.out w4 hb4; have HSS : Hid (Strs w4 xo4 g4 0 (Lab.readsF ls ps x)) := ss4; have HB4 : Hid (Below wz.heap.size wz w4) := hb4; clear hown4 hb4 ss4)
        | (go_at_call 13; refine (contains_any xo4 g4 0 _ c4 (Lab.readsF ls ps x) who _ rfl HRL.out (by exact HSS.out)).mono ?_; rintro e w9 ⟨rfl, hw9⟩; have hw9' := hw9.symm; subst hw9'))
      all_goals go_wp2
      all_goals go_ret2
      all_goals (refine ⟨?_, HBZ.out.trans (HB4.out.mono HBZ.out.size)⟩; rw [← HSH.out]; rfl)
  · have HV : Hid (seesE ls ps who x = checkL ls ps x) := by show _ = _; unfold seesE; rw [if_neg hk]
    have HW : Hid (seesV ls ps who x = false) := by show _ = _; unfold seesV; rw [HV.out, decide_eq_false hk]; rfl
    rw [HV.out, HW.out]
    obtain ⟨e0, he0⟩ : ∃ e0, e0 = checkL ls ps x := ⟨_, rfl⟩
    rw [← he0] at hbad hk ⊢
    have bn : (e0 == 0) = false := by simp [hk]
    have bb : (e0 != 0) = true := by simp [hk]
    clear he0 hk
    go_enter Tryd.func18, Tryd.ntmps18
    go_wp2_with fail
    rw [← HWZ.out]
    refine hbad.mono ?_
    rintro e w1 ⟨rfl, hb1⟩
    have HB1 : Hid (Below w.heap.size w w1) := HBZ.out.trans (hb1.mono HBZ.out.size)
    clear hb1 hbad
    go_wp2
    go_ret2
    exact ⟨rfl, HB1.out⟩

set_option maxRecDepth 100000 in
set_option maxHeartbeats 8000000 in
theorem law_alk (ao po co lo xo yo pro : Option Addr) (b off b' off' n m c d cb coff cn cc lb loff ln lc xb xoff xn xc yb yoff yn yc prn prc : Nat) (mx : Int) (ls : List ByteArray) (ps : List (ByteArray × ByteArray)) (who : ByteArray) (x : List Pol) (vs : List Ch5) (xs : List (List Pol)) (p q : List (List Int)) (w : World)
    (hc : Chiefs w ao po b off b' off' n m c ls ps) (hpz : ∀ p ∈ ps, p.1.size ≤ maxLen ∧ p.2.size ≤ maxLen) (hmx : w.cell? ⟨0, 0, none⟩ = some (.int .i64 mx)) (hx : LabAt w lo lb loff ln lc x)
    (hv : ChV w co cb coff vs) (hl : ChL w vs xs) (hn : cn = xs.length) (hcm : cn ≤ maxLen) (hp : InV w xo xb xoff p) (hpn : xn = p.length) (hpm : xn ≤ maxLen) (hq : InV w yo yb yoff q) (hqn : yn = q.length) (hqm : yn ≤ maxLen) :
    Calls Tryd.prog 4 #[.agg #[.slice ao n c, .slice po m d, .slice co cn cc, .slice pro prn prc], .string who, .slice lo ln lc, .slice xo xn xc, .slice yo yn yc] w fun e w' => e = .returned (.bool true) ∧ Below w.heap.size w w' := by
  obtain ⟨wz, hwz⟩ : ∃ wz, wz = (w.alloc (.cells #[.slice ao n c, .slice po m d, .slice co cn cc, .slice pro prn prc] 46)).alloc (.cells #[.string who] 9) := ⟨_, rfl⟩
  have HBZ : Hid (Below w.heap.size w wz) := by rw [hwz]; exact ((Below.refl _ _).alloc (Nat.le_refl _) _).alloc (by simp) _
  have k0 : wz.heap[w.heap.size]? = some (.cells #[.slice ao n c, .slice po m d, .slice co cn cc, .slice pro prn prc] 46 (0, 0)) := by rw [hwz]; exact heap_past_alloc (heap_at_alloc _ _ _ rfl)
  have k1 : wz.heap[w.heap.size + 1]? = some (.cells #[.string who] 9 (0, 0)) := by rw [hwz]; exact heap_at_alloc _ _ _ (by simp)
  have HWZ : Hid (wz = (w.alloc (.cells #[.slice ao n c, .slice po m d, .slice co cn cc, .slice pro prn prc] 46)).alloc (.cells #[.string who] 9)) := hwz
  have HK : Hid (∀ W, Below wz.heap.size wz W → W.heap[w.heap.size]? = some (.cells #[.slice ao n c, .slice po m d, .slice co cn cc, .slice pro prn prc] 46 (0, 0)) ∧ W.heap[w.heap.size + 1]? = some (.cells #[.string who] 9 (0, 0))) := fun W hW => ⟨(hW.block _ (lt_of_block k0)).trans k0, (hW.block _ (lt_of_block k1)).trans k1⟩
  have HCEL : Hid (∀ W, Below wz.heap.size wz W → W.cell? ⟨w.heap.size, 0, none⟩ = some (.slice ao n c) ∧ W.cell? ⟨w.heap.size, 1, none⟩ = some (.slice po m d) ∧ W.cell? ⟨w.heap.size, 2, none⟩ = some (.slice co cn cc) ∧ W.cell? ⟨w.heap.size, 3, none⟩ = some (.slice pro prn prc) ∧ W.cell? ⟨w.heap.size + 1, 0, none⟩ = some (.string who) ∧ w.heap.size < W.heap.size ∧ w.heap.size + 1 < W.heap.size) := fun W hW => by
    obtain ⟨e0, e1⟩ := HK.out W hW
    exact ⟨by simp [World.cell?, e0], by simp [World.cell?, e0], by simp [World.cell?, e0], by simp [World.cell?, e0], by simp [World.cell?, e1], lt_of_block e0, lt_of_block e1⟩
  have HC : Hid (Chiefs wz ao po b off b' off' n m c ls ps) := hc.later HBZ.out
  have HX : Hid (LabAt wz lo lb loff ln lc x) := hx.later HBZ.out
  have HV : Hid (ChV wz co cb coff vs) := hv.later HBZ.out
  have HL : Hid (ChL wz vs xs) := hl.later HBZ.out
  have HP : Hid (InV wz xo xb xoff p) := hp.later HBZ.out
  have HQ : Hid (InV wz yo yb yoff q) := hq.later HBZ.out
  have HN : Hid (cn = xs.length) := hn
  have HPN : Hid (xn = p.length) := hpn
  have HQN : Hid (yn = q.length) := hqn
  have HSEES : Hid (∀ W (go : Option Addr) (gb goff gn gc : Nat) (y : List Pol), Below wz.heap.size wz W → LabAt W go gb goff gn gc y → Calls Tryd.prog 18 #[.slice go gn gc, .pointer (some ⟨w.heap.size, 0, none⟩), .pointer (some ⟨w.heap.size + 1, 0, none⟩)] W fun e w' => e = .returned (.tuple #[.bool (seesV ls ps who y), .int .i64 (seesE ls ps who y)]) ∧ Below W.heap.size W w') := fun W go gb goff gn gc y hW hy =>
    lawSees w.heap.size ao po go co pro b off b' off' n m c d gb goff gn gc cn cc prn prc mx ls ps who y W (HC.out.later hW) hpz (((HBZ.out.trans (hW.mono HBZ.out.size)).cell (p := ⟨0, 0, none⟩) (World.block_lt_of_cell? w _ hmx)).trans hmx) (HK.out W hW).1 (HK.out W hW).2 hy
  have hs1 := seesT ao po lo b off b' off' n m c d lb loff ln lc ls ps who x wz HC.out HX.out
  have HAL : Hid (∀ W, Below wz.heap.size wz W → Calls Tryd.prog 17 #[.agg #[.slice ao n c, .slice po m d, .slice co cn cc, .slice pro prn prc], .string who, .slice xo xn xc, .slice yo yn yc] W fun e w' => e = .returned (.tuple #[.bool (alkV ls ps who xs p q).1, .int .i64 (alkV ls ps who xs p q).2]) ∧ Below W.heap.size W w') := fun W hW =>
    alikeC ao po co xo yo pro b off b' off' n m c d cb coff cn cc xb xoff xn xc yb yoff yn yc prn prc ls ps who vs xs p q W (HC.out.later hW) (HV.out.later hW) (HL.out.later hW) hn hcm (HP.out.later hW) hpn hpm (HQ.out.later hW) hqn hqm
  have eg : ∀ args w, (callFunc 18 args).run Tryd.prog w = .ok (.enter 18 args) w := enters_of Tryd.func18 (by kernel_rfl) rfl
  have hmf : ∀ (fn : Fn) (first cap : Array Value) (w : World), (Instr.makeFunc fn first cap).run Tryd.prog w = .ok (.func fn first cap) w := fun _ _ _ _ => rfl
  obtain ⟨R, hR⟩ : ∃ R, R = alkV ls ps who xs p q := ⟨_, rfl⟩
  have HR : Hid (R = alkV ls ps who xs p q) := hR
  rw [← hR] at HAL
  obtain ⟨r1, r2⟩ := R
  simp only at HAL
  obtain ⟨e1, he1⟩ : ∃ e1, e1 = seesE ls ps who x := ⟨_, rfl⟩
  obtain ⟨t1, ht1⟩ : ∃ t1, t1 = seesV ls ps who x := ⟨_, rfl⟩
  rw [← he1, ← ht1] at hs1
  have HE1 : Hid (e1 = seesE ls ps who x) := he1
  have HT1 : Hid (t1 = seesV ls ps who x) := ht1
  unfold maxLen at hcm hpm hqm
  clear hc hx hv hl hp hq hn hpn hqn hwz k0 k1 hR he1 ht1 hpz hmx
  go_enter Tryd.func4, Tryd.ntmps4
  go_wp2_with fail
  rw [← HWZ.out]
  refine hs1.mono ?_
  rintro e w1 ⟨rfl, hb1⟩
  have hal := HAL.out w1 hb1
  obtain ⟨z0, z1, z2, z3, z4, l0, l1⟩ := HCEL.out w1 hb1
  have HB1 : Hid (Below wz.heap.size wz w1) := hb1
  clear hs1 hb1 HWZ HAL
  go_wp2_with fail
  refine hal.mono ?_
  rintro e w2 ⟨rfl, hb2⟩
  have HB2 : Hid (Below wz.heap.size wz w2) := HB1.out.trans (hb2.mono HB1.out.size)
  have hls := HSEES.out w2 lo lb loff ln lc x HB2.out (HX.out.later HB2.out)
  rw [← HE1.out, ← HT1.out] at hls
  clear hal hb2 z0 z1 z2 z3 z4 l0 l1 HB1
  go_wp2_with fail
  refine hls.mono ?_
  rintro e w3 ⟨rfl, hb3⟩
  have HB3 : Hid (Below wz.heap.size wz w3) := HB2.out.trans (hb3.mono HB2.out.size)
  clear hls hb3 HB2
  have bq1 : (e1 == e1) = true := by simp
  have bq2 : (e1 != e1) = false := by simp
  have bq3 : (t1 == t1) = true := by simp
  have bq4 : (t1 != t1) = false := by simp
  go_wp2_with fail
  refine (viewed_any _).mono ?_
  rintro e w4 ⟨rfl, hb4⟩
  have HB4 : Hid (Below wz.heap.size wz w4) := HB3.out.trans (hb4.mono HB3.out.size)
  obtain ⟨z0, z1, z2, z3, z4, l0, l1⟩ := HCEL.out w4 HB4.out
  have HBW4 : Hid (Below w.heap.size w w4) := HBZ.out.trans (HB4.out.mono HBZ.out.size)
  clear hb4 HB3
  go_upto_region 7 with fail
  clear bq1 bq2 bq3 bq4
  by_cases h1 : xn = cn
  · by_cases h2 : yn = cn
    · have b1 : ((xn : Int) == (cn : Int)) = true := by simp; omega
      have b1' : ((xn : Int) != (cn : Int)) = false := by simp; omega
      have b2 : ((yn : Int) == (cn : Int)) = true := by simp; omega
      have b2' : ((yn : Int) != (cn : Int)) = false := by simp; omega
      by_cases h6 : 6 < cn
      · have d6 : decide ((6 : Int) < (xn : Int)) = true := by simp; omega
        have d6' : decide (6 < xn) = true := by simp; omega
        have hR := HR.out
        have hbad : alkV ls ps who xs p q = (false, 4) := by
          unfold alkV
          rw [if_neg]
          intro h
          have := HN.out
          have := HPN.out
          have := HQN.out
          omega
        rw [hbad] at hR
        injection hR with e1' e2'
        clear hbad HR
        subst e1' e2'
        go_wp2
        go_ret
        exact ⟨rfl, HBW4.out⟩
      · subst h1 h2
        have d6 : decide ((6 : Int) < (yn : Int)) = false := by simp; omega
        have d6' : decide (6 < yn) = false := by simp; omega
        have HRF : Hid (alkF ls ps who xs p q = (r1, r2)) := by
          show _ = _
          rw [HR.out]
          unfold alkV
          rw [if_pos]
          have := HN.out
          have := HPN.out
          have := HQN.out
          omega
        have hy6 : yn ≤ 6 := by omega
        clear HR hcm hpm hqm h6
        go_wp2
        clear d6 d6' b1 b1' b2 b2' z0 z1 z2 z3 z4 l0 l1
        go_loopw [87] (fun i wr => ∃ k : Nat, k ≤ yn ∧ i = .int .i64 k ∧ Hid (alkF ls ps who (xs.drop k) (p.drop k) (q.drop k) = (r1, r2)) ∧ Hid (Below wz.heap.size wz wr)) (fun i _ => yn - (intOf i).toNat)
        case atStart => exact ⟨0, Nat.zero_le _, rfl, HRF, HB4⟩
        case round =>
          obtain ⟨k, hk, rfl, HKK, HBR⟩ := hrel
          by_cases hlt : k < yn
          · have hkx : k < xs.length := by have := HN.out; omega
            have hkv : k < vs.length := by have := HL.out.ln; omega
            have hkp : k < p.length := by have := HPN.out; omega
            have hkq : k < q.length := by have := HQN.out; omega
            have hV := HV.out.later HBR.out
            have hL := HL.out.later HBR.out
            have hco := hV.adr (by omega)
            have f0 := hV.c0 k hkv
            have f1 := hV.c1 k hkv
            have f2 := hV.c2 k hkv
            have f3 := hV.c3 k hkv
            have f4 := hV.c4 k hkv
            have hlb := hL.at' k hkv hkx
            have hst := alkF_at (ls := ls) (ps := ps) (who := who) hkx hkp hkq
            rw [HKK.out] at hst
            obtain ⟨v0, hv0⟩ : ∃ v, v = vs[k].1 := ⟨_, rfl⟩
            obtain ⟨v1, hv1⟩ : ∃ v, v = vs[k].2.1 := ⟨_, rfl⟩
            obtain ⟨v2, hv2⟩ : ∃ v, v = vs[k].2.2.1 := ⟨_, rfl⟩
            obtain ⟨v3, hv3⟩ : ∃ v, v = vs[k].2.2.2.1 := ⟨_, rfl⟩
            rw [← hv0] at f0
            rw [← hv1] at f1
            rw [← hv2] at f2
            rw [← hv3] at f3
            obtain ⟨go, gb, goff, gn, gc, hgv, hgl⟩ := hlb
            rw [hgv] at f4
            obtain ⟨y, hy⟩ : ∃ y, y = xs[k] := ⟨_, rfl⟩
            rw [← hy] at hgl hst
            obtain ⟨wy, hwy⟩ : ∃ wy, wy = wr.alloc (.cells #[.int .i64 v0, .string v1, .bool v2, .int .i64 v3, .slice go gn gc] 54) := ⟨_, rfl⟩
            have hby : Below wr.heap.size wr wy := by rw [hwy]; exact (Below.refl _ _).alloc (Nat.le_refl _) _
            have hbyz : Below wz.heap.size wz wy := HBR.out.trans (hby.mono HBR.out.size)
            have hs2 := HSEES.out wy go gb goff gn gc y hbyz (hgl.later hby)
            have HWY : Hid (wy = wr.alloc (.cells #[.int .i64 v0, .string v1, .bool v2, .int .i64 v3, .slice go gn gc] 54)) := hwy
            have HBY : Hid (Below wz.heap.size wz wy) := hbyz
            obtain ⟨e2, he2⟩ : ∃ e2, e2 = seesE ls ps who y := ⟨_, rfl⟩
            obtain ⟨t2, ht2⟩ : ∃ t2, t2 = seesV ls ps who y := ⟨_, rfl⟩
            rw [← he2, ← ht2] at hs2 hst
            clear hV hL hv0 hv1 hv2 hv3 hgv hgl hy hwy hby hbyz he2 ht2
            subst hco
            by_cases h0 : e2 = 0
            · subst h0
              rw [if_pos rfl] at hst
              go_wp2_with fail
              rw [← HWY.out]
              refine hs2.mono ?_
              rintro e w5 ⟨rfl, hb5⟩
              have HB5 : Hid (Below wz.heap.size wz w5) := HBY.out.trans (hb5.mono HBY.out.size)
              clear hb5 hs2 HWY HBY HBR
              cases t2
              · rw [Bool.false_and, if_neg (by decide)] at hst
                have HST : Hid (alkF ls ps who (xs.drop (k + 1)) (p.drop (k + 1)) (q.drop (k + 1)) = (r1, r2)) := hst.symm
                clear hst
                go_upto_region 15 with fail
                go_quiet (fail)
                have HBN : Hid (Below wz.heap.size wz (w5.drewN nq)) := HB5.out.trans ((below_drewN w5 nq).mono HB5.out.size)
                go_wp2
                go_roundw
                case rel => exact ⟨k + 1, by omega, by go_num, HST, HBN⟩
                case measure => simp [intOf]; omega
              · have hP := HP.out.later HB5.out
                have hQ := HQ.out.later HB5.out
                have hxo := hP.adr (by omega)
                have hyo := hQ.adr (by omega)
                obtain ⟨pv, g0, hg0⟩ := hP.at' k hkp
                obtain ⟨qv, g1, hg1⟩ := hQ.at' k hkq
                obtain ⟨po', pb, poff, pc, hpv, hpl, hpi⟩ := hg0
                obtain ⟨qo', qb, qoff, qc, hqv, hql, hqi⟩ := hg1
                subst hpv hqv
                have HEQ : Hid (∀ q', Calls Tryd.prog 20 #[.slice po' p[k].length pc, .slice qo' q[k].length qc] (w5.drewN q') fun e w' => e = .returned (.bool (decide (p[k] = q[k]))) ∧ ∃ q, w' = (w5.drewN q').drewN q) := fun q' =>
                  eqInts po' qo' pb poff qb qoff p[k].length q[k].length pc qc p[k] q[k] (w5.drewN q') rfl rfl hpl hql (hpi.later (below_drewN _ _)) (hqi.later (below_drewN _ _))
                obtain ⟨N1, hN1⟩ : ∃ N, N = p[k].length := ⟨_, rfl⟩
                obtain ⟨N2, hN2⟩ : ∃ N, N = q[k].length := ⟨_, rfl⟩
                obtain ⟨t3, ht3⟩ : ∃ t, t = decide (p[k] = q[k]) := ⟨_, rfl⟩
                rw [← hN1] at g0 HEQ
                rw [← hN2] at g1 HEQ
                rw [← ht3] at hst HEQ
                rw [Bool.true_and] at hst
                clear hP hQ hpl hpi hql hqi hN1 hN2 ht3
                subst hxo hyo
                go_upto_region 15 with fail
                cases t3
                · rw [Bool.not_false, if_pos rfl] at hst
                  injection hst with q1 q2
                  clear HKK HRF
                  subst q1 q2
                  go_quiet ((go_at_call 20; exact Calls.quiet_of (HEQ.out _)))
                  have HBN : Hid (Below w.heap.size w (w5.drewN nq)) := HBZ.out.trans ((HB5.out.trans ((below_drewN w5 nq).mono HB5.out.size)).mono HBZ.out.size)
                  go_wp2
                  go_ret
                  exact ⟨rfl, HBN.out⟩
                · rw [Bool.not_true, if_neg (by decide)] at hst
                  have HST : Hid (alkF ls ps who (xs.drop (k + 1)) (p.drop (k + 1)) (q.drop (k + 1)) = (r1, r2)) := hst.symm
                  clear hst
                  go_quiet ((go_at_call 20; exact Calls.quiet_of (HEQ.out _)))
                  have HBN : Hid (Below wz.heap.size wz (w5.drewN nq)) := HB5.out.trans ((below_drewN w5 nq).mono HB5.out.size)
                  go_wp2
                  go_roundw
                  case rel => exact ⟨k + 1, by omega, by go_num, HST, HBN⟩
                  case measure => simp [intOf]; omega
            · rw [if_neg h0] at hst
              injection hst with q1 q2
              clear HKK HRF
              subst q1 q2
              have bn : (r2 == 0) = false := by simp [h0]
              have bb : (r2 != 0) = true := by simp [h0]
              have bq : (r2 == r2) = true := by simp
              clear h0
              go_wp2_with fail
              rw [← HWY.out]
              refine hs2.mono ?_
              rintro e w5 ⟨rfl, hb5⟩
              have HBE : Hid (Below w.heap.size w w5) := HBZ.out.trans ((HBY.out.trans (hb5.mono HBY.out.size)).mono HBZ.out.size)
              clear hb5 hs2
              go_wp2
              go_ret
              exact ⟨rfl, HBE.out⟩
          · have hend := HKK.out
            rw [List.drop_of_length_le (by have := HN.out; omega), alkF_end] at hend
            injection hend with q1 q2
            clear HKK HRF
            subst q1 q2
            have HBE : Hid (Below w.heap.size w wr) := HBZ.out.trans (HBR.out.mono HBZ.out.size)
            go_wp2
            go_ret
            exact ⟨rfl, HBE.out⟩
    · have b1 : ((xn : Int) == (cn : Int)) = true := by simp; omega
      have b1' : ((xn : Int) != (cn : Int)) = false := by simp; omega
      have b2 : ((yn : Int) == (cn : Int)) = false := by simp; omega
      have b2' : ((yn : Int) != (cn : Int)) = true := by simp; omega
      have hR := HR.out
      have hbad : alkV ls ps who xs p q = (false, 4) := by
        unfold alkV
        rw [if_neg]
        intro h
        have := HN.out
        have := HPN.out
        have := HQN.out
        omega
      rw [hbad] at hR
      injection hR with e1' e2'
      clear hbad HR
      subst e1' e2'
      go_wp2
      go_ret
      exact ⟨rfl, HBW4.out⟩
  · have b1 : ((xn : Int) == (cn : Int)) = false := by simp; omega
    have b1' : ((xn : Int) != (cn : Int)) = true := by simp; omega
    have hR := HR.out
    have hbad : alkV ls ps who xs p q = (false, 4) := by
      unfold alkV
      rw [if_neg]
      intro h
      have := HN.out
      have := HPN.out
      have := HQN.out
      omega
    rw [hbad] at hR
    injection hR with e1' e2'
    clear hbad HR
    subst e1' e2'
    go_wp2
    go_ret
    exact ⟨rfl, HBW4.out⟩
end Go.Proofs.YtfhpmnghakhlkaaDoor
