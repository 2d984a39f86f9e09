/- The law ViewMore, walked. -/
import Derived.Test.YtfhpmnghakhlkaaViewed
import Derived.Test.YtfhpmnghakhlkaaConcatL
import Derived.Test.YtfhpmnghakhlkaaSeeP
namespace Go.Proofs.Ytfhpmnghakhlkaa
open Go.RowKit

theorem sawE_zero {ls : List ByteArray} {ps : List (ByteArray × ByteArray)} {who : ByteArray} : ∀ {l : List Evt}, sawE ls ps who l = 0 → ∀ e ∈ l, seesE ls ps who e.2.2 = 0
  | [], _, e, he => by cases he
  | x :: r, h, e, he => by
    rw [sawE] at h
    split at h
    · rename_i h0
      rcases List.mem_cons.1 he with rfl | he
      · exact h0
      · exact sawE_zero h e he
    · rename_i h0; exact absurd h h0
theorem seenE_zero {ls : List ByteArray} {ps : List (ByteArray × ByteArray)} {who : ByteArray} {l : List Evt} (h : seenE ls ps who l = 0) : l.length ≤ 3000 ∧ seesE ls ps who [] = 0 ∧ ∀ e ∈ l, seesE ls ps who e.2.2 = 0 := by
  unfold seenE at h
  split at h
  · cases h
  · rename_i h3
    split at h
    · rename_i h0; exact ⟨by omega, h0, sawE_zero h⟩
    · rename_i h0; exact absurd h h0
theorem seen_more {ls : List ByteArray} {ps qs : List (ByteArray × ByteArray)} {who : ByteArray} {l : List Evt} (h : seenE ls ps who l = 0) (h' : seenE ls (ps ++ qs) who l = 0) : (sawF ls ps who l).Sublist (sawF ls (ps ++ qs) who l) := by
  obtain ⟨_, _, h1⟩ := seenE_zero h
  obtain ⟨_, _, h2⟩ := seenE_zero h'
  unfold sawF
  refine List.Sublist.map _ (See.filter_more fun e he hs => ?_)
  have g := (sees_iff (h1 e he)).1 hs
  exact (sees_iff (h2 e he)).2 fun p hp => Lab.lets_more (fun q hq => List.mem_append_left _ hq) (g p hp)
theorem seen_all {ls : List ByteArray} {ps : List (ByteArray × ByteArray)} {who : ByteArray} {l : List Evt} (h : seenE ls ps who l = 0) (ha : ∀ s ∈ ls, Act.acts ls ps who s = true) : (sawF ls ps who l).length = l.length := by
  obtain ⟨_, h0, h1⟩ := seenE_zero h
  obtain ⟨k1, hw⟩ := seesE_zero h0
  obtain ⟨k0, _⟩ := checkL_ok k1
  obtain ⟨_, _, hr, _⟩ := right_of k0
  unfold sawF
  rw [List.length_map, List.filter_eq_self.2]
  intro e he
  obtain ⟨g1, _⟩ := seesE_zero (h1 e he)
  obtain ⟨_, _, g2, _⟩ := checkL_ok g1
  exact (sees_iff (h1 e he)).2 fun p hp => .inl ((Act.acts_iff hr hw (g2 p hp).1).1 (ha _ (g2 p hp).1))
theorem seen_acts {ls : List ByteArray} {ps : List (ByteArray × ByteArray)} {who : ByteArray} {l : List Evt} (h : seenE ls ps who l = 0) : checkF ls ps = 0 ∧ Act.has ls who = true := by
  obtain ⟨_, h0, _⟩ := seenE_zero h
  obtain ⟨k1, hw⟩ := seesE_zero h0
  obtain ⟨k0, _⟩ := checkL_ok k1
  exact ⟨k0, Act.has_iff.2 hw⟩

set_option maxRecDepth 100000 in
set_option maxHeartbeats 4000000 in
theorem law_see (ao po qo lo : Option Addr) (b off b' off' b'' off'' n m r c d d' lb loff ln lc : Nat) (who : ByteArray) (ls : List ByteArray) (ps qs : List (ByteArray × ByteArray)) (vs : List Ev3) (l : List Evt) (w : World) (hc : Chiefs w ao po b off b' off' n m c ls ps) (hr : r = qs.length) (hq : Prs w qo b'' off'' qs) (hb : (m + r) * 32 ≤ 281474976710656)
    (hv : EvV w lo lb loff vs) (hl : EvL w vs l) (hn : ln = l.length) (hm : ln ≤ maxLen) :
    Calls Try.prog 3 #[.slice ao n c, .slice po m d, .slice qo r d', .string who, .slice lo ln lc] w fun e w' => e = .returned (.bool true) ∧ Below w.heap.size w w' := by
  have HC : Hid (Chiefs w ao po b off b' off' n m c ls ps) := hc
  have HR : Hid (r = qs.length) := hr
  have HQ : Hid (Prs w qo b'' off'' qs) := hq
  have HB : Hid ((m + r) * 32 ≤ 281474976710656) := hb
  have HV : Hid (EvV w lo lb loff vs) := hv
  have HL : Hid (EvL w vs l) := hl
  have HN : Hid (ln = l.length) := hn
  have HM : Hid (ln ≤ maxLen) := hm
  clear hc hr hq hb hv hl hn hm
  have hcall := seenC ao po lo b off b' off' n m c d lb loff ln lc ls ps who vs l w HC.out HV.out HL.out HN.out HM.out
  go_enter Try.func3, Try.ntmps3
  go_wp2_with fail
  refine hcall.mono ?_
  rintro e w1 ⟨v1, rfl, hst1⟩
  obtain ⟨e1, he1⟩ : ∃ e1, e1 = seenE ls ps who l := ⟨_, rfl⟩
  rw [← he1]
  have HE1 : Hid (e1 = seenE ls ps who l) := he1
  have HS1 : Hid (EvSt w w1 v1 (seenV ls ps who l)) := hst1
  have hb1 : Below w.heap.size w w1 := hst1.bel
  have HC1 : Hid (Chiefs w1 ao po b off b' off' n m c ls ps) := HC.out.later hb1
  have HQ1 : Hid (Prs w1 qo b'' off'' qs) := HQ.out.later hb1
  clear he1 hst1 hcall HQ
  have HW2 : Hid (Below w1.heap.size w1 (w1.alloc (.cells #[.slice po m d, .slice qo r d'] 23))) := (Below.refl _ _).alloc (Nat.le_refl _) _
  have HCC : Hid (Calls Try.prog 5 #[.slice (some ⟨w1.heap.size, 0, none⟩) 2 2] (w1.alloc (.cells #[.slice po m d, .slice qo r d'] 23)) fun e w' => ∃ v, e = .returned v ∧ w'.ownsRow (w1.alloc (.cells #[.slice po m d, .slice qo r d'] 23)).heap.size 29 2 v (ps ++ qs).length (prC (ps ++ qs)) ∧ Below (w1.alloc (.cells #[.slice po m d, .slice qo r d'] 23)).heap.size (w1.alloc (.cells #[.slice po m d, .slice qo r d'] 23)) w') :=
    concatP w1.heap.size po qo b' off' b'' off'' m r d d' ps qs _ HC1.out.lm HR.out HB.out (World.cell?_alloc_at _ _ _ _ rfl) (World.cell?_alloc_at _ _ _ _ rfl) (by simp) (HC1.out.prs.later HW2.out) (HQ1.out.later HW2.out)
  go_wp2_with fail
  refine HCC.out.mono ?_
  rintro e w3 ⟨v3, rfl, hown3, hb3⟩
  have HB3 : Hid (Below w1.heap.size w1 w3) := HW2.out.trans (hb3.mono (by simp))
  obtain ⟨bo, b3, cap3, hv3, hc3, hm3, hp3⟩ := prs_of_own hown3
  subst hv3
  obtain ⟨N, hN⟩ : ∃ N, N = (ps ++ qs).length := ⟨_, rfl⟩
  rw [← hN] at hc3 ⊢
  have HC3 : Hid (Chiefs w3 ao bo b off b3 0 n N c ls (ps ++ qs)) := by
    have h := HC1.out.later HB3.out
    exact ⟨h.ln, hN, h.mn, Nat.le_trans hc3 hm3, h.cap, h.strs, hp3, h.sz⟩
  have HS3 : Hid (EvSt w w3 v1 (seenV ls ps who l)) := HS1.out.later HB3.out
  clear hown3 hb3 hc3 hm3 hp3 hN HCC HW2 HC1 HS1 HQ1
  have hcall := seenC ao bo lo b off b3 0 n N c cap3 lb loff ln lc ls (ps ++ qs) who vs l w3 HC3.out (HV.out.later HS3.out.bel) (HL.out.later HS3.out.bel) HN.out HM.out
  go_wp2_with fail
  refine hcall.mono ?_
  rintro e w4 ⟨v4, rfl, hst4⟩
  obtain ⟨e2, he2⟩ : ∃ e2, e2 = seenE ls (ps ++ qs) who l := ⟨_, rfl⟩
  rw [← he2]
  have HE2 : Hid (e2 = seenE ls (ps ++ qs) who l) := he2
  have HS4 : Hid (EvSt w w4 v4 (seenV ls (ps ++ qs) who l)) := hst4.wide HS3.out.bel
  have HT4 : Hid (EvSt w w4 v1 (seenV ls ps who l)) := HS3.out.later hst4.bel
  have HC4 : Hid (Chiefs w4 ao bo b off b3 0 n N c ls (ps ++ qs)) := HC3.out.later hst4.bel
  clear he2 hst4 hcall HC3 HS3 HB3
  go_wp2_with fail
  refine (viewed_any _).mono ?_
  rintro e w6 ⟨rfl, hb6⟩
  have HS6 : Hid (EvSt w w6 v4 (seenV ls (ps ++ qs) who l)) := HS4.out.later hb6
  have HT6 : Hid (EvSt w w6 v1 (seenV ls ps who l)) := HT4.out.later hb6
  have HC6 : Hid (Chiefs w6 ao bo b off b3 0 n N c ls (ps ++ qs)) := HC4.out.later hb6
  clear hb6 HS4 HT4 HC4
  by_cases h1 : e1 = 0
  · subst h1
    by_cases h2 : e2 = 0
    · subst h2
      have HSUB : Hid ((sawF ls ps who l).Sublist (sawF ls (ps ++ qs) who l)) := seen_more HE1.out.symm HE2.out.symm
      have HALL : Hid ((∀ s ∈ ls, Act.acts ls (ps ++ qs) who s = true) → (sawF ls (ps ++ qs) who l).length = l.length) := seen_all HE2.out.symm
      have HG : Hid (checkF ls (ps ++ qs) = 0 ∧ Act.has ls who = true) := seen_acts HE2.out.symm
      have hl3 := (seenE_zero HE2.out.symm).1
      have hbl := sawF_len ls (ps ++ qs) who l
      have hal := sawF_len ls ps who l
      have eA : seenV ls ps who l = sawF ls ps who l := by unfold seenV; rw [if_pos HE1.out.symm]
      have eB : seenV ls (ps ++ qs) who l = sawF ls (ps ++ qs) who l := by unfold seenV; rw [if_pos HE2.out.symm]
      rw [eA] at HT6
      rw [eB] at HS6
      obtain ⟨A, hA⟩ : ∃ A, A = sawF ls ps who l := ⟨_, rfl⟩
      obtain ⟨B, hB⟩ : ∃ B, B = sawF ls (ps ++ qs) who l := ⟨_, rfl⟩
      rw [← hA] at HT6 HSUB hal
      rw [← hB] at HS6 HSUB HALL hbl
      clear hA hB eA eB HE1 HE2
      obtain ⟨xo, xb, xcap, hxv, _, _, hxr⟩ := HT6.out.row
      obtain ⟨yo, yb, ycap, hyv, _, _, hyr⟩ := HS6.out.row
      subst hxv hyv
      have HXR : Hid (EvV w6 xo xb 0 (bareV A)) := hxr
      have HYR : Hid (EvV w6 yo yb 0 (bareV B)) := hyr
      have HB6 : Hid (Below w.heap.size w w6) := HS6.out.bel
      obtain ⟨na, hna⟩ : ∃ na, na = A.length := ⟨_, rfl⟩
      obtain ⟨nb, hnb⟩ : ∃ nb, nb = B.length := ⟨_, rfl⟩
      have HNA : Hid (na = A.length) := hna
      have HNB : Hid (nb = B.length) := hnb
      have hna3 : na ≤ 3000 := by omega
      have hnb3 : nb ≤ ln := by have := HN.out; omega
      have hln3 : ln ≤ 3000 := by have := HN.out; omega
      rw [← hna, ← hnb]
      clear hxr hyr hna hnb hbl hal hl3 HS6 HT6
      go_wp2
      go_loopw [16, 56] (fun kv i wr => ∃ j : Nat, j ≤ nb ∧ i = .int .i64 j ∧ ∃ k : Nat, kv = .int .i64 k ∧ k ≤ na ∧ Hid (k = See.met A (B.take j)) ∧ Hid (Below w6.heap.size w6 wr)) (fun _ i _ => nb - (intOf i).toNat)
      case atStart => exact ⟨0, Nat.zero_le _, rfl, 0, rfl, Nat.zero_le _, by show _ = _; cases A <;> rfl, Below.refl _ _⟩
      case round =>
        obtain ⟨j, hj, rfl, k, rfl, hkn, HK, HBR⟩ := hrel
        by_cases hlt : j < nb
        · have hjl : j < B.length := by have := HNB.out; omega
          have hY := HYR.out.later HBR.out
          have hX := HXR.out.later HBR.out
          have hyo := hY.adr (by rw [bareV_len]; omega)
          have g0 := hY.c0 j (by rw [bareV_len]; omega)
          have g1 := hY.c1 j (by rw [bareV_len]; omega)
          have g2 := hY.c2 j (by rw [bareV_len]; omega)
          simp only [bareV, List.getElem_map] at g0 g1 g2
          have ly : yb < wr.heap.size := hY.lt (by rw [bareV_len]; omega)
          have hst : See.met A (B.take (j + 1)) = See.met A (B.take j) + if h : See.met A (B.take j) < A.length then (if A[See.met A (B.take j)] = B[j] then 1 else 0) else 0 := by
            rw [List.take_succ_eq_append_getElem hjl]; exact See.met_snoc _ _ _
          obtain ⟨y, hy⟩ : ∃ y, y = B[j] := ⟨_, rfl⟩
          rw [← hy] at g0 g1 hst
          obtain ⟨ys, yi⟩ := y
          simp only at g0 g1
          rw [Nat.zero_add] at g0 g1 g2
          obtain ⟨wy, hwy⟩ : ∃ wy, wy = wr.alloc (.cells #[.string ys, .int .i64 yi, .slice none 0 0] 34) := ⟨_, rfl⟩
          have hby : Below wr.heap.size wr wy := by rw [hwy]; exact (Below.refl _ _).alloc (Nat.le_refl _) _
          have ky : wy.heap[wr.heap.size]? = some (.cells #[.string ys, .int .i64 yi, .slice none 0 0] 34 (0, 0)) := by rw [hwy]; exact heap_at_alloc _ _ _ rfl
          have y0 : wy.cell? ⟨wr.heap.size, 0, none⟩ = some (.string ys) := by simp [World.cell?, ky]
          have y1 : wy.cell? ⟨wr.heap.size, 1, none⟩ = some (.int .i64 yi) := by simp [World.cell?, ky]
          have y2 : wy.cell? ⟨wr.heap.size, 2, none⟩ = some (.slice none 0 0) := by simp [World.cell?, ky]
          have lyy : wr.heap.size < wy.heap.size := lt_of_block ky
          have HBY : Hid (Below w6.heap.size w6 wy) := HBR.out.trans (hby.mono HBR.out.size)
          have HWY : Hid (wy = wr.alloc (.cells #[.string ys, .int .i64 yi, .slice none 0 0] 34)) := hwy
          by_cases hka : k < na
          · have hkl : k < A.length := by have := HNA.out; omega
            have hX' := hX.later hby
            have hxo := hX'.adr (by rw [bareV_len]; omega)
            have f0 := hX'.c0 k (by rw [bareV_len]; omega)
            have f1 := hX'.c1 k (by rw [bareV_len]; omega)
            have f2 := hX'.c2 k (by rw [bareV_len]; omega)
            have lx : xb < wy.heap.size := hX'.lt (by rw [bareV_len]; omega)
            simp only [bareV, List.getElem_map] at f0 f1 f2
            have hst2 : See.met A (B.take (j + 1)) = k + if A[k] = (ys, yi) then 1 else 0 := by
              rw [hst]
              simp only [← HK.out]
              rw [dif_pos hkl]
            obtain ⟨x, hx⟩ : ∃ x, x = A[k] := ⟨_, rfl⟩
            rw [← hx] at f0 f1 hst2
            obtain ⟨xs, xi⟩ := x
            simp only at f0 f1
            rw [Nat.zero_add] at f0 f1 f2
            obtain ⟨t, ht⟩ : ∃ t, t = (decide (xs = ys) && decide (xi = yi)) := ⟨_, rfl⟩
            have HCS : Hid (∀ W : World, Calls Try.prog 7 #[.agg #[.string xs, .int .i64 xi, .slice none 0 0], .agg #[.string ys, .int .i64 yi, .slice none 0 0]] W fun e w' => e = .returned (.bool t) ∧ Below W.heap.size W w') := fun W => by rw [ht]; exact sameC xs ys xi yi W
            have HT : Hid (See.met A (B.take (j + 1)) = k + if t = true then 1 else 0) := by
              show _ = _
              rw [hst2, ht]
              congr 1
              by_cases e : xs = ys ∧ xi = yi
              · obtain ⟨e1, e2⟩ := e; subst e1 e2; simp
              · rw [if_neg (fun h => e (by simpa using h)), if_neg]
                intro h; simp at h; exact e h
            have hd : decide ((k : Int) < (na : Int)) = true := by simp; omega
            clear hX hX' hY hby hwy hst hst2 hx hy ht ky
            subst hxo hyo
            go_upto_region 10 with fail
            rw [← HWY.out]
            go_cut [71] (fun s71 wc => s71 = .bool t ∧ Hid (Below wy.heap.size wy wc))
            case first =>
              go_region_with (go_at_call 7; refine (HCS.out _).mono ?_; rintro e w7 ⟨rfl, hb7⟩; have HB7 : Hid (Below wy.heap.size wy w7) := (by exact (below_dr wy).trans hb7); clear hb7)
              all_goals (try go_wp2_with fail)
              all_goals go_meet
              all_goals exact ⟨rfl, HB7⟩
            case rest =>
              obtain ⟨rfl, HB7⟩ := hcut
              have HBN : Hid (Below w6.heap.size w6 wc) := HBY.out.trans (HB7.out.mono HBY.out.size)
              cases t
              · have HT' : Hid (k = See.met A (B.take (j + 1))) := by have h := HT.out; simp at h; exact h.symm
                go_wp2
                go_roundw
                case rel => exact ⟨j + 1, by omega, by go_num, k, rfl, hkn, HT', HBN⟩
                case measure => simp [intOf]; omega
              · have HT' : Hid (k + 1 = See.met A (B.take (j + 1))) := by have h := HT.out; simp at h; exact h.symm
                go_wp2
                go_roundw
                case rel => exact ⟨j + 1, by omega, by go_num, k + 1, by go_num, by omega, HT', HBN⟩
                case measure => simp [intOf]; omega
          · have HT' : Hid (k = See.met A (B.take (j + 1))) := by
              show _ = _
              rw [hst]
              simp only [← HK.out]
              rw [dif_neg (by have := HNA.out; omega)]
              rfl
            have hd : decide ((k : Int) < (na : Int)) = false := by simp; omega
            clear hX hY hby hwy hst hy ky
            subst hyo
            go_upto_region 10 with fail
            rw [← HWY.out]
            go_quiet (fail)
            have HBN : Hid (Below w6.heap.size w6 (wy.drewN nq)) := HBY.out.trans ((below_drewN wy nq).mono HBY.out.size)
            go_wp2
            go_roundw
            case rel => exact ⟨j + 1, by omega, by go_num, k, rfl, hkn, HT', HBN⟩
            case measure => simp [intOf]; omega
        · have hk0 : k = na := by
            have h := HK.out
            rw [List.take_of_length_le (by have := HNB.out; omega), See.met_all HSUB.out] at h
            rw [h, HNA.out]
          subst hk0
          have d1 : decide ((k : Int) < (k : Int)) = false := by simp
          have d2 : decide (ln < nb) = false := by simp; omega
          have hnl := HC6.out.ln
          have hn6 : n ≤ 6 := by have h1 := (right_of HG.out.1).1; omega
          clear hnl
          by_cases hn0 : 0 < n
          · have hao := HC6.out.strs.adr (by have := HC6.out.ln; omega)
            subst hao
            go_wp2
            clear d1 d2
            go_loopw [88] (fun i wx => ∃ p : Nat, p ≤ n ∧ i = .int .i64 p ∧ Hid (∀ s ∈ ls.take p, Act.acts ls (ps ++ qs) who s = true) ∧ Hid (Below w6.heap.size w6 wx)) (fun i _ => n - (intOf i).toNat)
            case atStart => exact ⟨0, Nat.zero_le _, rfl, by show ∀ s ∈ _, _; simp, HBR⟩
            case round =>
              obtain ⟨p, hp, rfl, HA, HBX⟩ := hrel
              by_cases hpl : p < n
              · have hpk : p < ls.length := by have := HC6.out.ln; omega
                have hC := HC6.out.later HBX.out
                have f0 := hC.strs.cell p hpk
                have hmem := List.getElem_mem hpk
                obtain ⟨s, hs⟩ : ∃ s, s = ls[p] := ⟨_, rfl⟩
                rw [← hs] at f0 hmem
                have hca := acts_any _ bo b off b3 0 n N c cap3 ls (ps ++ qs) who s wr hC
                have he : actsE ls (ps ++ qs) who s = 0 := by unfold actsE; rw [if_pos HG.out.1, if_pos ⟨HG.out.2, Act.has_iff.2 hmem⟩]
                have hav : actsV ls (ps ++ qs) who s = Act.acts ls (ps ++ qs) who s := by unfold actsV; rw [he]; simp
                rw [he, hav] at hca
                have HSP : Hid (s = ls[p]) := hs
                obtain ⟨t, ht⟩ : ∃ t, t = Act.acts ls (ps ++ qs) who s := ⟨_, rfl⟩
                rw [← ht] at hca
                have HTT : Hid (t = Act.acts ls (ps ++ qs) who s) := ht
                clear hC hs hmem he hav ht
                cases t
                · go_wp2_with fail
                  refine hca.mono ?_
                  rintro e w7 ⟨rfl, hb7⟩
                  go_wp2
                  go_ret
                  exact ⟨rfl, HB6.out.trans ((HBX.out.trans (hb7.mono HBX.out.size)).mono HB6.out.size)⟩
                · have HA' : Hid (∀ s ∈ ls.take (p + 1), Act.acts ls (ps ++ qs) who s = true) := by
                    intro s' hs'
                    rw [List.take_succ_eq_append_getElem hpk, List.mem_append, List.mem_singleton] at hs'
                    rcases hs' with h | h
                    · exact HA.out s' h
                    · rw [h, ← HSP.out]; exact HTT.out.symm
                  go_wp2_with fail
                  refine hca.mono ?_
                  rintro e w7 ⟨rfl, hb7⟩
                  have HB7 : Hid (Below w6.heap.size w6 w7) := HBX.out.trans (hb7.mono HBX.out.size)
                  clear hb7 hca
                  go_wp2
                  go_roundw
                  case rel => exact ⟨p + 1, by omega, by go_num, HA', HB7⟩
                  case measure => simp [intOf]; omega
              · have heq : nb = ln := by
                  have h := HALL.out (by
                    have h1 := HA.out
                    rwa [List.take_of_length_le (by have := HC6.out.ln; omega)] at h1)
                  have := HNB.out
                  have := HN.out
                  omega
                have bq : ((nb : Int) == (ln : Int)) = true := by simp [heq]
                go_wp2
                go_ret
                exact ⟨rfl, HB6.out.trans (HBX.out.mono HB6.out.size)⟩
          · have hz : n = 0 := by omega
            subst hz
            have heq : nb = ln := by
              have h := HALL.out (by
                intro s hs
                have h1 : ls = [] := List.length_eq_zero_iff.1 HC6.out.ln.symm
                rw [h1] at hs; cases hs)
              have := HNB.out
              have := HN.out
              omega
            have bq : ((nb : Int) == (ln : Int)) = true := by simp [heq]
            clear heq
            go_wp2
            clear d1 d2
            go_loopw [88] (fun i wx => i = .int .i64 0 ∧ Hid (Below w6.heap.size w6 wx)) (fun _ _ => 0)
            case atStart => exact ⟨rfl, HBR⟩
            case round =>
              obtain ⟨hi, HBX⟩ := hrel
              subst hi
              go_wp2
              go_ret
              exact ⟨rfl, HB6.out.trans (HBX.out.mono HB6.out.size)⟩
    · have be : (e2 == 0) = false := by simp [h2]
      have bn : (e2 != 0) = true := by simp [h2]
      go_wp2_with fail
      refine (viewed_any _).mono ?_
      rintro e w7 ⟨rfl, hb7⟩
      go_wp2
      go_ret
      exact ⟨rfl, HS6.out.bel.trans (hb7.mono HS6.out.bel.size)⟩
  · have be : (e1 == 0) = false := by simp [h1]
    have bn : (e1 != 0) = true := by simp [h1]
    go_wp2_with fail
    refine (viewed_any _).mono ?_
    rintro e w7 ⟨rfl, hb7⟩
    go_wp2
    go_ret
    exact ⟨rfl, HS6.out.bel.trans (hb7.mono HS6.out.bel.size)⟩
end Go.Proofs.Ytfhpmnghakhlkaa
