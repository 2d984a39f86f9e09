/- The law ChiefSame, walked. -/
import Derived.Test.YtilapnfdijjobabChiefed
import Derived.Test.YtilapnfdijjobabEqS
import Derived.Test.YtilapnfdijjobabDeleteP
import Derived.Deep.RegionHeld3
namespace Go.Proofs.Ytilapnfdijjobab
open Go.RowKit

theorem nil_len (l : List (ByteArray × ByteArray)) : (((l.length : Nat) : Int) == 0) = decide (l.length = 0) := by
  by_cases h : l.length = 0
  · simp [h]
  · simp [h]
/- With the fewest pairs in the place of the pairs. -/
theorem least_checks {ls : List ByteArray} {ps : List (ByteArray × ByteArray)} (h0 : checkF ls ps = 0) (h10 : (Act.leastF ls ps).length ≤ 10) : checkF ls (Act.leastF ls ps) = 0 := by
  obtain ⟨g1, _, g3, g4⟩ := right_of h0
  exact right_back g1 h10 (Act.least_right g3) g4
theorem erase_checks {ls : List ByteArray} {ps : List (ByteArray × ByteArray)} (h0 : checkF ls ps = 0) (k : Nat) : checkF ls (ps.eraseIdx k) = 0 := by
  obtain ⟨g1, g2, g3, g4⟩ := right_of h0
  refine right_back g1 ?_ ⟨g3.nd, fun p hp => g3.mem p (List.eraseIdx_subset hp)⟩ g4
  have := List.length_eraseIdx_le ps k
  omega
theorem same_for {ls : List ByteArray} {ps : List (ByteArray × ByteArray)} (h0 : checkF ls ps = 0) (hb : bothB ls ps = false) (h10 : (Act.leastF ls ps).length ≤ 10) {y : ByteArray} (hy : y ∈ ls) : forE ls ps y = 0 ∧ forE ls (Act.leastF ls ps) y = 0 ∧ forV ls (Act.leastF ls ps) y = forV ls ps y := by
  obtain ⟨g1, _, g3, g4⟩ := right_of h0
  have e1 : forE ls ps y = 0 := by simp [forE, h0, Act.has_iff.2 hy]
  have e2 : forE ls (Act.leastF ls ps) y = 0 := by simp [forE, least_checks h0 h10, Act.has_iff.2 hy]
  have hnb : ¬ Act.Both ls ps := by rw [← both_iff, hb]; simp
  refine ⟨e1, e2, ?_⟩
  simp only [forV, e1, e2, if_true]
  exact Act.for_least g3 hnb hy
theorem least_open {ls : List ByteArray} {ps : List (ByteArray × ByteArray)} (h : leastE ls ps = 0) : checkF ls ps = 0 ∧ bothB ls ps = false ∧ leastV ls ps = Act.leastF ls ps := by
  have h0 : checkF ls ps = 0 := by
    by_cases h0 : checkF ls ps = 0
    · exact h0
    · simp [leastE, h0] at h
  have hb : bothB ls ps = false := by
    cases hb : bothB ls ps with
    | false => rfl
    | true => simp [leastE, h0, hb] at h
  exact ⟨h0, hb, by simp [leastV, h]⟩
theorem needed_acts {ls : List ByteArray} {ps : List (ByteArray × ByteArray)} (h0 : checkF ls ps = 0) (h10 : (Act.leastF ls ps).length ≤ 10) {k : Nat} (hk : k < (Act.leastF ls ps).length) : actsE ls ((Act.leastF ls ps).eraseIdx k) (Act.leastF ls ps)[k].1 (Act.leastF ls ps)[k].2 = 0 ∧ actsV ls ((Act.leastF ls ps).eraseIdx k) (Act.leastF ls ps)[k].1 (Act.leastF ls ps)[k].2 = false := by
  obtain ⟨g1, _, g3, g4⟩ := right_of h0
  have hc := erase_checks (least_checks h0 h10) k
  have hm := Act.least_mem.1 (List.getElem_mem hk)
  have e1 : actsE ls ((Act.leastF ls ps).eraseIdx k) (Act.leastF ls ps)[k].1 (Act.leastF ls ps)[k].2 = 0 := by
    simp [actsE, hc, Act.has_iff.2 hm.1, Act.has_iff.2 hm.2.1]
  refine ⟨e1, ?_⟩
  simp only [actsV, e1]
  rw [Act.least_needed g3 hk]
  rfl

theorem Prs.of_heap {w w' : World} {ao : Option Addr} {b off : Nat} {ps : List (ByteArray × ByteArray)} (h : Prs w ao b off ps) (hb : w'.heap = w.heap) : Prs w' ao b off ps :=
  ⟨h.adr, fun k hk => by rw [← h.c0 k hk]; simp only [World.cell?, hb], fun k hk => by rw [← h.c1 k hk]; simp only [World.cell?, hb], fun hn => by rw [hb]; exact h.lt hn⟩
theorem clone_row {mb n c : Nat} {l : List (ByteArray × ByteArray)} {w : World} (hn : Hid (n = l.length)) (hm : n ≤ 1000) (h0 : 0 < n) (hp : Hid (Prs w (some ⟨mb, 0, none⟩) mb 0 l)) :
    Calls Try.prog 11 #[.slice (some ⟨mb, 0, none⟩) n c] w fun e w' => ∃ g cp cur, e = .returned (.slice (some ⟨g, 0, none⟩) n cp) ∧ Hid (n ≤ cp ∧ cp ≤ maxLen ∧ w.heap.size ≤ g ∧ w'.heap[g]? = some (.cells cur 35 (0, 0)) ∧ cur.size = cp * 2 ∧ cur.toList.take (n * 2) = prC l) ∧ Hid (Below w.heap.size w w') := by
  refine (cloneP mb n c l w hn.out hm hp.out).mono ?_
  rintro e w' ⟨v, rfl, hown, hb⟩
  rcases hown.2 with ⟨_, h⟩ | ⟨g, cap, cur, hv, hg, hh, hc1, hc2, hsz, htk⟩
  · have := hn.out; omega
  · have := hn.out
    exact ⟨g, cap, cur, by rw [hv, this], ⟨by omega, hc2, hg, hh, hsz, by rw [this]; exact htk⟩, hb⟩
theorem wrap_succ (k : Nat) (hk : k ≤ 1000) : IntKind.i64.wrap ((k : Int) + 1) = (k : Int) + 1 := by
  rw [IntKind.wrap_i64]; omega
theorem delete_row {g n cp k : Nat} {l : List (ByteArray × ByteArray)} {cur : Array Value} {w w0 : World} (hn : Hid (n = l.length)) (hk : k < n) (hm : n ≤ 1000)
    (h : Hid (n ≤ cp ∧ cp ≤ maxLen ∧ w0.heap.size ≤ g ∧ w.heap[g]? = some (.cells cur 35 (0, 0)) ∧ cur.size = cp * 2 ∧ cur.toList.take (n * 2) = prC l)) :
    Calls Try.prog 10 #[.slice (some ⟨g, 0, none⟩) n cp, .int .i64 k, .int .i64 (IntKind.i64.wrap ((k : Int) + 1))] w fun e w' => e = .returned (.slice (some ⟨g, 0, none⟩) (n - 1) cp) ∧ Hid (Prs w' (some ⟨g, 0, none⟩) g 0 (l.eraseIdx k)) ∧ Hid (Below w0.heap.size w w') := by
  obtain ⟨h1, h2, h3, h4, h5, h6⟩ := h.out
  have := deleteP g n cp k (k + 1) l cur w hn.out rfl hk hm h1 h2 h4 h5 h6
  rw [show (((k + 1 : Nat)) : Int) = (k : Int) + 1 by omega] at this
  rw [wrap_succ k (by omega)]
  refine this.mono ?_
  rintro e w' ⟨rfl, h7, h8⟩
  exact ⟨rfl, h7, h8.mono h3⟩

theorem erased_chiefs {wr w3 w4 : World} {ao : Option Addr} {b off b2 n N c g j : Nat} {ls : List ByteArray} {lm : List (ByteArray × ByteArray)} {po : Option Addr} (HN : Hid (N = lm.length)) (hNp : 0 < N) (HM : Hid (Chiefs wr ao po b off b2 0 n N c ls lm)) (H3 : Hid (Below wr.drew.heap.size wr.drew w3)) (H4 : Hid (Below wr.drew.heap.size w3 w4)) (HE : Hid (Prs w4 (some ⟨g, 0, none⟩) g 0 (lm.eraseIdx j))) (hj : Hid (j < N)) :
    Chiefs w4 ao (some ⟨g, 0, none⟩) b off g 0 n (N - 1) c ls (lm.eraseIdx j) := by
  have hb : Below wr.heap.size wr w4 := by
    have h := H3.out.trans H4.out
    exact ⟨h.os, h.tape, h.output, h.size, h.block⟩
  have h := HM.out.later hb
  have hn := HN.out
  have hjj := hj.out
  exact ⟨h.ln, by rw [List.length_eraseIdx, if_pos (by omega), hn], h.mn, by have := h.mm; omega, h.cap, h.strs, HE.out, h.sz⟩

theorem erased_below {w wr w3 w4 w5 : World} (h : Hid (Below w.heap.size w wr)) (H3 : Hid (Below wr.drew.heap.size wr.drew w3)) (H4 : Hid (Below wr.drew.heap.size w3 w4)) (H5 : Hid (Below w4.heap.size w4 w5)) : Below w.heap.size w w5 := by
  have hb : Below wr.heap.size wr w4 := by
    have h := H3.out.trans H4.out
    exact ⟨h.os, h.tape, h.output, h.size, h.block⟩
  have h1 := h.out.trans (hb.mono h.out.size)
  exact h1.trans (H5.out.mono h1.size)

set_option maxHeartbeats 2000000 in
theorem law_same (ao po : Option Addr) (b off b' off' n m c d : Nat) (k : Int) (ls : List ByteArray) (ps : List (ByteArray × ByteArray)) (w : World) (hc : Chiefs w ao po b off b' off' n m c ls ps) :
    Calls Try.prog 3 #[.slice ao n c, .slice po m d, .int .i64 k] w fun e w' => e = .returned (.bool true) ∧ Below w.heap.size w w' := by
  have HC : Hid (Chiefs w ao po b off b' off' n m c ls ps) := hc
  clear hc
  go_enter Try.func3, Try.ntmps3
  go_wp2_with fail
  refine (least_any _ _ _ _ _ _ _ _ _ _ ls ps _ HC.out).mono ?_
  rintro e w1 ⟨v, rfl, hown, hb1⟩
  obtain ⟨bo, b2, cap2, hv, hcap2, hcm2, hp2⟩ := prs_of_own hown
  subst hv
  by_cases hE : leastE ls ps = 0
  · obtain ⟨h0, hbo, hlv⟩ := least_open hE
    rw [hlv] at hown hcap2 hp2 ⊢
    rw [hE]
    obtain ⟨lm, hlm⟩ : ∃ lm, lm = Act.leastF ls ps := ⟨_, rfl⟩
    rw [← hlm] at hown hcap2 hp2 ⊢
    have HLM : Hid (lm = Act.leastF ls ps) := hlm
    have H0 : Hid (checkF ls ps = 0) := h0
    have HBO : Hid (bothB ls ps = false) := hbo
    have HP2 : Hid (Prs w1 bo b2 0 lm) := hp2
    have HB1 : Hid (Below w.heap.size w w1) := hb1
    obtain ⟨N, hN⟩ : ∃ N, N = lm.length := ⟨_, rfl⟩
    rw [← hN] at hcap2 ⊢
    have HN : Hid (N = lm.length) := hN
    have hNm : N ≤ maxLen := Nat.le_trans hcap2 hcm2
    unfold maxLen at hNm
    clear hown hlv hbo h0 hE hlm hp2 hb1 hN hcm2
    go_wp2_with fail
    refine (chiefed_any _).mono ?_
    rintro e w2 ⟨rfl, hb2⟩
    have HB2 : Hid (Below w.heap.size w w2) := HB1.out.trans (hb2.mono HB1.out.size)
    have HP3 : Hid (Prs w2 bo b2 0 lm) := HP2.out.later hb2
    have HC3 : Hid (Chiefs w2 ao po b off b' off' n m c ls ps) := HC.out.later HB2.out
    clear hb2 HP2 HB1
    by_cases h10 : 10 < N
    · have d10 : decide ((10 : Int) < (N : Int)) = true := by simp; omega
      go_wp2_with fail
      refine (chiefed_any _).mono ?_
      rintro e w3 ⟨rfl, hb3⟩
      go_wp2
      go_ret
      exact ⟨rfl, HB2.out.trans (hb3.mono HB2.out.size)⟩
    · have d10 : decide ((10 : Int) < (N : Int)) = false := by simp; omega
      have HL10 : Hid (lm.length ≤ 10) := by show _ ≤ _; have := HN.out; omega
      have HCM : Hid (Chiefs w2 ao bo b off b2 0 n N c ls lm) := ⟨HC3.out.ln, HN.out, HC3.out.mn, by unfold maxLen; omega, HC3.out.cap, HC3.out.strs, HP3.out, HC3.out.sz⟩
      have hn9 : n ≤ 6 := by have := (right_of H0.out).1; have := HC.out.ln; omega
      clear HC
      go_wp2
      go_loopw [36] (fun i wr => ∃ q : Nat, q ≤ n ∧ i = .int .i64 q ∧ Below w2.heap.size w2 wr) (fun i _ => n - (intOf i).toNat)
      case atStart => exact ⟨0, Nat.zero_le _, rfl, Below.refl _ _⟩
      case round =>
        obtain ⟨q, hq, rfl, hbw⟩ := hrel
        have HBW : Hid (Below w2.heap.size w2 wr) := hbw
        clear hbw
        by_cases hlt : q < n
        · have hl0 := HC3.out.ln
          have hql : q < ls.length := by omega
          have hao := HC3.out.strs.adr (by omega)
          have f0 := (HC3.out.strs.later HBW.out).cell q hql
          obtain ⟨x, hx⟩ : ∃ x, x = ls[q] := ⟨_, rfl⟩
          rw [← hx] at f0
          have hmem : x ∈ ls := hx ▸ List.getElem_mem hql
          obtain ⟨z1, z2, z3⟩ := same_for H0.out HBO.out (by rw [← HLM.out]; exact HL10.out) hmem
          rw [← HLM.out] at z2 z3
          have Z1 : Hid (forE ls ps x = 0) := z1
          have Z2 : Hid (forE ls lm x = 0) := z2
          have Z3 : Hid (forV ls lm x = forV ls ps x) := z3
          have HCW : Hid (Chiefs wr ao po b off b' off' n m c ls ps) := HC3.out.later HBW.out
          have HMW : Hid (Chiefs wr ao bo b off b2 0 n N c ls lm) := HCM.out.later HBW.out
          clear hl0 hx hmem z1 z2 z3
          subst hao
          go_wp2_with fail
          refine (for_any _ _ _ _ _ _ _ _ _ _ ls ps x _ HCW.out).mono ?_
          rintro e w3 ⟨v3, rfl, hown3, hb3⟩
          rw [Z1.out]
          have HMW3 : Hid (Chiefs w3 _ bo b off b2 0 n N c ls lm) := HMW.out.later hb3
          have HO3 : Hid (w3.ownsRow wr.heap.size 9 1 v3 (forV ls ps x).length (strC (forV ls ps x))) := hown3
          have HB3 : Hid (Below w2.heap.size w2 w3) := HBW.out.trans (hb3.mono HBW.out.size)
          clear hown3 hb3 HCW HMW
          go_wp2_with fail
          refine (for_any _ _ _ _ _ _ _ _ _ _ ls lm x _ HMW3.out).mono ?_
          rintro e w4 ⟨v4, rfl, hown4, hb4⟩
          rw [Z2.out]
          rw [Z3.out] at hown4
          have HB4 : Hid (Below w2.heap.size w2 w4) := HB3.out.trans (hb4.mono HB3.out.size)
          obtain ⟨a3, g3, c3, hv3, _, _, ss3⟩ := strs_of_own (own_below HO3.out hb4)
          obtain ⟨a4, g4, c4, hv4, _, _, ss4⟩ := strs_of_own hown4
          have hlen : (forV ls ps x).length ≤ 1000 := by
            have h1 : (forV ls ps x).length ≤ ls.length := by
              unfold forV; split
              · exact List.length_filter_le _ _
              · simp
            have := HC3.out.ln; omega
          subst hv3 hv4
          have HS3 : Hid (Strs w4 a3 g3 0 (forV ls ps x)) := ss3
          have HS4 : Hid (Strs w4 a4 g4 0 (forV ls ps x)) := ss4
          clear hown4 hb4 HO3 ss3 ss4
          go_wp2_with fail
          refine (eqStr _ _ _ _ _ _ _ _ _ (forV ls ps x) _ rfl hlen HS3.out HS4.out).mono ?_
          rintro e w5 ⟨rfl, hb5⟩
          have HB5 : Hid (Below w2.heap.size w2 w5) := HB4.out.trans (hb5.mono HB4.out.size)
          clear hb5
          go_wp2
          go_roundw
          case rel => exact ⟨q + 1, by omega, by go_num, HB5.out⟩
          case measure => simp [intOf]; omega
        · have HBE : Hid (Below w.heap.size w wr) := HB2.out.trans (HBW.out.mono HB2.out.size)
          by_cases hz : N = 0
          · have bz : ((N : Int) == 0) = true := by simp [hz]
            go_wp2
            go_ret
            exact ⟨rfl, HBE.out⟩
          · have bz : ((N : Int) == 0) = false := by simp; omega
            have hbo := HP3.out.adr (by have := HN.out; omega)
            subst hbo
            have HMW : Hid (Chiefs wr ao (some ⟨b2, 0, none⟩) b off b2 0 n N c ls lm) := HCM.out.later HBW.out
            go_wp2_with fail
            refine (at_any k N _ (by omega) (by omega)).mono ?_
            rintro e w3 ⟨⟨j, hj, rfl⟩, hw⟩
            have hw' := hw.symm
            subst hw'
            have hjl : j < lm.length := by have := HN.out; omega
            have f0 := HMW.out.prs.c0 j hjl
            have f1 := HMW.out.prs.c1 j hjl
            rw [Nat.zero_add] at f0 f1
            have hna := needed_acts H0.out (by rw [← HLM.out]; exact HL10.out) (k := j) (by rw [← HLM.out]; exact hjl)
            simp only [← HLM.out] at hna
            obtain ⟨x, hx⟩ : ∃ x, x = lm[j] := ⟨_, rfl⟩
            rw [← hx] at f0 f1 hna
            obtain ⟨x1, x2⟩ := x
            simp only at f0 f1 hna
            have HNA : Hid (actsE ls (lm.eraseIdx j) x1 x2 = 0 ∧ actsV ls (lm.eraseIdx j) x1 x2 = false) := hna
            have HPD : Hid (Prs wr.drew (some ⟨b2, 0, none⟩) b2 0 lm) := HMW.out.prs.of_heap rfl
            have lb2 : b2 < wr.heap.size := HMW.out.prs.lt (by omega)
            have hN10 : N ≤ 10 := by omega
            have hNp : 0 < N := by omega
            have HJN : Hid (j < N) := hj
            have i1 : (j : Int) < (N : Int) := by omega
            clear hna hx
            go_upto_region 15 with fail
            go_region_held3 (fun w' => w'.cell? ⟨b2, j * 2, none⟩ = some (.string x1) ∧ w'.cell? ⟨b2, j * 2 + 1, none⟩ = some (.string x2)) (go_keep)
              (first
                | (go_at_call 11; refine (clone_row HN (by omega) hNp HPD).mono ?_; rintro e w3 ⟨g, cp, cur, rfl, HRW, HB3⟩; have y1 := (HB3.out.cell (p := ⟨b2, j * 2, none⟩) lb2).trans f0; have y2 := (HB3.out.cell (p := ⟨b2, j * 2 + 1, none⟩) lb2).trans f1)
                | (go_at_call 10; refine (delete_row HN hj (by omega) HRW).mono ?_; rintro e w4 ⟨rfl, HPE, HB4⟩; have y3 := (HB4.out.cell (p := ⟨b2, j * 2, none⟩) lb2).trans y1; have y4 := (HB4.out.cell (p := ⟨b2, j * 2 + 1, none⟩) lb2).trans y2)
                | (go_at_call 9; refine (acts_any _ _ _ _ _ _ _ _ _ _ ls (lm.eraseIdx j) x1 x2 _ (by exact erased_chiefs HN hNp HMW HB3 HB4 HPE HJN)).mono ?_; rintro e w5 ⟨rfl, hb5⟩; rw [HNA.out.1, HNA.out.2]; have HB5 : Hid (Below w4.heap.size w4 w5) := hb5; have y5 := (hb5.cell (p := ⟨b2, j * 2, none⟩) (Nat.lt_of_lt_of_le lb2 (Nat.le_trans HB3.out.size HB4.out.size))).trans y3; have y6 := (hb5.cell (p := ⟨b2, j * 2 + 1, none⟩) (Nat.lt_of_lt_of_le lb2 (Nat.le_trans HB3.out.size HB4.out.size))).trans y4; clear hb5))
            all_goals go_wp2
            all_goals go_ret
            all_goals exact ⟨rfl, erased_below HBE HB3 HB4 HB5⟩
  · obtain ⟨e0, he0⟩ : ∃ e0, e0 = leastE ls ps := ⟨_, rfl⟩
    rw [← he0]
    have be : (e0 == 0) = false := by simp [he0, hE]
    have bn : (e0 != 0) = true := by simp [he0, hE]
    have hne : ¬ e0 = 0 := by rw [he0]; exact hE
    have HB1 : Hid (Below w.heap.size w w1) := hb1
    obtain ⟨N, hN⟩ : ∃ N, N = (leastV ls ps).length := ⟨_, rfl⟩
    rw [← hN]
    clear he0 hE hb1 hown hcap2 hcm2 hp2 hN
    go_wp2_with fail
    refine (chiefed_any _).mono ?_
    rintro e w2 ⟨rfl, hb2⟩
    have HB2 : Hid (Below w.heap.size w w2) := HB1.out.trans (hb2.mono HB1.out.size)
    clear hb2
    go_wp2_with fail
    refine (chiefed_any _).mono ?_
    rintro e w3 ⟨rfl, hb3⟩
    go_wp2
    go_ret
    exact ⟨rfl, HB2.out.trans (hb3.mono HB2.out.size)⟩
end Go.Proofs.Ytilapnfdijjobab
