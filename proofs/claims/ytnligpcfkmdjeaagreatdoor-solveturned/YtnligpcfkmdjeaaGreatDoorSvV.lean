/- SolveTurned: the law returns true. -/
import Derived.Test.YtnligpcfkmdjeaaGreatDoorSvU
namespace Go.Proofs.YtnligpcfkmdjeaaGreatDoor
open Go.RowKit

set_option maxRecDepth 100000 in
set_option maxHeartbeats 8000000 in
theorem law_turned (ao po lo : Option Addr) (b off b' off' n m c d lb loff ln lc : Nat) (Ni kk : Int) (ls : List ByteArray) (ps : List (ByteArray × ByteArray)) (l : List RBd) (w : World) (hch : Chiefs w ao po b off b' off' n m c ls ps) (hl : Bds w lo lb loff l) (hn : ln = l.length) (hm : ln ≤ maxLen) (hlc : ln ≤ lc) (hnl : lo = none → lc = 0) (hT : TzTab w) :
    Calls Tryz.prog 6 #[.slice ao n c, .slice po m d, .int .i64 Ni, .slice lo ln lc, .int .i64 kk] w fun e w' => e = .returned (.bool true) ∧ Below w.heap.size w w' := by
  obtain ⟨wz, hwz⟩ : ∃ wz, wz = (w.alloc (.cells #[.slice ao n c] 22)).alloc (.cells #[.slice po m d] 23) := ⟨_, rfl⟩
  have hbz : Below w.heap.size w wz := by rw [hwz]; exact ((Below.refl _ _).alloc (Nat.le_refl _) _).alloc (by simp) _
  have HK0 : Hid (wz.heap[w.heap.size]? = some (.cells #[.slice ao n c] 22 (0, 0))) := by rw [hwz]; exact heap_past_alloc (heap_at_alloc _ _ _ rfl)
  have HK1 : Hid (wz.heap[w.heap.size + 1]? = some (.cells #[.slice po m d] 23 (0, 0))) := by rw [hwz]; exact heap_at_alloc _ _ _ (by simp)
  have HWZ : Hid (wz = (w.alloc (.cells #[.slice ao n c] 22)).alloc (.cells #[.slice po m d] 23)) := hwz
  have HBX : Hid (∀ W, Below wz.heap.size wz W → W.cell? ⟨w.heap.size, 0, none⟩ = some (.slice ao n c) ∧ W.cell? ⟨w.heap.size + 1, 0, none⟩ = some (.slice po m d)) := fun W hW => ⟨(hW.cell (p := ⟨w.heap.size, 0, none⟩) (lt_of_block HK0.out)).trans (by simp [World.cell?, HK0.out]), (hW.cell (p := ⟨w.heap.size + 1, 0, none⟩) (lt_of_block HK1.out)).trans (by simp [World.cell?, HK1.out])⟩
  have hcall := leastL ao po lo b off b' off' n m c d lb loff ln lc Ni ls ps l wz (hch.later hbz) (hl.later hbz) hn hm (hT.later hbz)
  have HCH : Hid (Chiefs wz ao po b off b' off' n m c ls ps) := hch.later hbz
  have HBD : Hid (Bds wz lo lb loff l) := hl.later hbz
  have HT : Hid (TzTab wz) := hT.later hbz
  have HLN : Hid (ln = l.length) := hn
  have HLC : Hid (ln ≤ lc) := hlc
  have HNL : Hid (lo = none → lc = 0) := hnl
  have HBZ : Hid (Below w.heap.size w wz) := hbz
  have eg1 : ∀ args w, (callFunc 27 args).run Tryz.prog w = .ok (.enter 27 args) w := enters_of Tryz.func27 (by kernel_rfl) rfl
  clear hch hl hT hn hm hlc hnl hbz hwz
  go_enter Tryz.func6, Tryz.ntmps6
  go_wp2_with fail
  rw [← HWZ.out]
  refine hcall.mono ?_
  clear hcall
  rintro e w1 ⟨hb1, ⟨hne, rfl⟩ | ⟨h0, ro, rb, rc, ys, rfl, hysm, hat, hok⟩⟩
  · obtain ⟨E, hE⟩ : ∃ E, E = chkB ls ps Ni l := ⟨_, rfl⟩
    rw [← hE] at hne ⊢
    have bn : (E != 0) = true := by simp [hne]
    have be : (E == 0) = false := by simp [hne]
    have HB1 : Hid (Below wz.heap.size wz w1) := hb1
    clear hE hb1
    go_wp2_with fail
    refine (solved_any _ (HT.out.later HB1.out)).mono ?_
    rintro e w2 ⟨rfl, hb2⟩
    have HB2 : Hid (Below wz.heap.size wz w2) := HB1.out.trans (hb2.mono HB1.out.size)
    clear hb2
    go_wp2_with fail
    refine (solved_any _ (HT.out.later HB2.out)).mono ?_
    rintro e w3 ⟨rfl, hb3⟩
    have HB3 : Hid (Below wz.heap.size wz w3) := HB2.out.trans (hb3.mono HB2.out.size)
    clear hb3
    go_wp2
    go_ret
    exact ⟨rfl, HBZ.out.trans (HB3.out.mono HBZ.out.size)⟩
  · obtain ⟨N, hN⟩ : ∃ N, N = ys.length := ⟨_, rfl⟩
    rw [← hN]
    have HYN : Hid (ys.length = N) := hN.symm
    have HTN : Hid (Ni.toNat = N) := by rw [hN]; exact hok.len.symm
    have HB1 : Hid (Below wz.heap.size wz w1) := hb1
    have HA1 : Hid (LbsAt w1 ro rb 0 ys) := hat
    have HOK : Hid (LeastOK ls ps Ni.toNat l ys) := hok
    have H0 : Hid (chkB ls ps Ni l = 0) := h0
    have hfew : ln ≤ 400 := by rw [HLN.out]; exact chkB_few h0
    have HNM : Hid (N ≤ 400) := by
      show N ≤ 400
      unfold chkB at h0
      have h9 := HTN.out
      split at h0
      · split at h0
        · cases h0
        · omega
      · rename_i hF
        exact absurd h0 hF
    clear hb1 hat hok h0 hysm hN
    go_wp2_with fail
    refine (solved_any _ (HT.out.later HB1.out)).mono ?_
    rintro e w2 ⟨rfl, hb2⟩
    have HB2 : Hid (Below wz.heap.size wz w2) := HB1.out.trans (hb2.mono HB1.out.size)
    have HA2 : Hid (LbsAt w2 ro rb 0 ys) := HA1.out.later hb2
    have hcl := cloneBds lo lb loff ln lc l w2 (HBD.out.later HB2.out) HLN.out hfew
    clear hb2 HA1
    go_wp2_with fail
    refine hcl.mono ?_
    clear hcl
    rintro e w3 ⟨mo, mc, rfl, hb3, hrev⟩
    have hrv := hrev w3 (Below.refl _ _)
    clear hrev hb3
    go_wp2_with fail
    refine hrv.mono ?_
    clear hrv
    rintro e w4 ⟨rfl, hb4, mb, hbd4⟩
    have HB4 : Hid (Below wz.heap.size wz w4) := HB2.out.trans (hb4.mono HB2.out.size)
    have HA4 : Hid (LbsAt w4 ro rb 0 ys) := HA2.out.later hb4
    have x4 := (HBX.out w4 HB4.out).1
    have x4' := (HBX.out w4 HB4.out).2
    have hl4 := leastL ao po mo b off b' off' n m c d mb 0 ln mc Ni ls ps l.reverse w4 (HCH.out.later HB4.out) hbd4 (by simp [HLN.out]) (by unfold maxLen; omega) (HT.out.later HB4.out)
    have HZ4 : Hid (chkB ls ps Ni l.reverse = 0) := chkB_sub H0.out (fun x hx => List.mem_reverse.1 hx) (by simp)
    clear hb4 HA2
    go_wp2_with fail
    refine hl4.mono ?_
    clear hl4
    rintro e w5 ⟨hb5, ⟨hne, _⟩ | ⟨_, ro5, rb5, rc5, zs, rfl, _, hat5, hok5⟩⟩
    · exact absurd HZ4.out hne
    have hzn : zs.length = N := by rw [hok5.len, HTN.out]
    rw [hzn]
    have HZN : Hid (zs.length = N) := hzn
    have HB5 : Hid (Below wz.heap.size wz w5) := HB4.out.trans (hb5.mono HB4.out.size)
    have HA5 : Hid (LbsAt w5 ro rb 0 ys) := HA4.out.later hb5
    have HZ5 : Hid (LbsAt w5 ro5 rb5 0 zs) := hat5
    have HOK5 : Hid (LeastOK ls ps Ni.toNat l.reverse zs) := hok5
    have x5 := (HBX.out w5 HB5.out).1
    have x5' := (HBX.out w5 HB5.out).2
    clear hb5 hat5 hok5 hzn hbd4 x4 x4' HA4
    have HAT : Hid (∀ W, Calls Tryz.prog 26 #[.int .i64 kk, .int .i64 ((ln : Int) + 1)] W fun e w' => (∃ j : Nat, j ≤ ln ∧ e = .returned (.int .i64 j)) ∧ w' = W) := fun W => by
      have h9 := atC kk (ln + 1) W (by omega) (by omega)
      have e9 : ((ln + 1 : Nat) : Int) = (ln : Int) + 1 := by omega
      rw [e9] at h9
      exact h9.mono fun e w' ⟨⟨j, h1, h2⟩, h3⟩ => ⟨⟨j, by omega, h2⟩, h3⟩
    have HL7 : Hid (∀ (W : World) (j : Nat), j ≤ ln → Below w5.heap.size w5 W → Calls Tryz.prog 7 #[.slice ao n c, .slice po m d, .int .i64 Ni, .slice lo j lc] W fun e w' => Below w5.heap.size w5 w' ∧ ∃ (ro : Option Addr) (rb rc : Nat) (cs : List (List Pol)), e = .returned (.tuple #[.slice ro N rc, .int .i64 0]) ∧ cs.length = N ∧ LbsAt w' ro rb 0 cs ∧ LeastOK ls ps Ni.toNat (l.take j) cs) := fun W j hj hW => by
      have hWz := HB5.out.trans (hW.mono HB5.out.size)
      refine (leastL ao po lo b off b' off' n m c d lb loff j lc Ni ls ps (l.take j) W (HCH.out.later hWz) ((HBD.out.later hWz).take j) (by rw [List.length_take, ← HLN.out]; omega) (by unfold maxLen; omega) (HT.out.later hWz)).mono ?_
      rintro e w' ⟨hb, ⟨hne, _⟩ | ⟨_, ro, rb, rc, cs, rfl, _, h1, h2⟩⟩
      · exact absurd (chkB_sub H0.out (fun x hx => List.mem_of_mem_take hx) (by rw [List.length_take]; omega)) hne
      · have hcs : cs.length = N := by rw [h2.len, HTN.out]
        exact ⟨hW.trans (hb.mono hW.size), ro, rb, rc, cs, by rw [hcs], hcs, h1, h2⟩
    have bself : ∀ e : Int, (e != e) = false := by simp
    have hwr : IntKind.i64.wrap ((ln : Int) + 1) = (ln : Int) + 1 := by rw [IntKind.wrap_i64]; omega
    go_wp2
    go_region_held3 (fun w' => w'.cell? ⟨w.heap.size, 0, none⟩ = some (.slice ao n c) ∧ w'.cell? ⟨w.heap.size + 1, 0, none⟩ = some (.slice po m d)) (go_keep)
      (first
        | (go_at_call 26; refine (HAT.out _).mono ?_; rintro e w6 ⟨⟨j, hj, rfl⟩, hw6⟩; have hw6' := hw6.symm; subst hw6'; have hjc : j ≤ lc := Nat.le_trans hj HLC.out)
        | (go_at_call 7; refine (HL7.out _ j hj (by repeat (first | exact Below.refl _ _ | assumption | refine belowDr ?_))).mono ?_; rintro e w7 ⟨hb7, ro7, rb7, rc7, cs, rfl, hcn, hat7, hok7⟩; have y1 := cell_below hb7 x5; have y2 := cell_below hb7 x5'))
    have HB7 : Hid (Below wz.heap.size wz w7) := HB5.out.trans (hb7.mono HB5.out.size)
    have HA7 : Hid (LbsAt w7 ro rb 0 ys) := HA5.out.later hb7
    have HZ7 : Hid (LbsAt w7 ro5 rb5 0 zs) := HZ5.out.later hb7
    have HC7 : Hid (LbsAt w7 ro7 rb7 0 cs) := hat7
    have HOK7 : Hid (LeastOK ls ps Ni.toNat (l.take j) cs) := hok7
    have HCN : Hid (cs.length = N) := hcn
    have hNM : N ≤ 400 := HNM.out
    clear hb7 hat7 hok7 hcn HA5 HZ5 x5 x5' y1 y2
    go_wp2
    go_loopw [83] (fun i wr => ∃ k : Nat, k ≤ N ∧ i = .int .i64 k ∧ Hid (Below w7.heap.size w7 wr)) (fun i _ => N - (intOf i).toNat)
    case atStart => exact ⟨0, Nat.zero_le _, rfl, Below.refl _ _⟩
    case round =>
      obtain ⟨k, hk, rfl, HB⟩ := hrel
      by_cases hlt : k < N
      · have hky : k < ys.length := by rw [HYN.out]; exact hlt
        have hkz : k < zs.length := by rw [HZN.out]; exact hlt
        have hkc : k < cs.length := by rw [HCN.out]; exact hlt
        have HBW : Hid (Below wz.heap.size wz wr) := HB7.out.trans (HB.out.mono HB7.out.size)
        have hAr := HA7.out.later HB.out
        have hZr := HZ7.out.later HB.out
        have hCr := HC7.out.later HB.out
        have hr1 := hAr.adr (by omega)
        have hr2 := hZr.adr (by omega)
        have hr3 := hCr.adr (by omega)
        obtain ⟨v1, f1, o1, b1, of1, n1, c1, hv1, L1⟩ := hAr.at' k hky
        obtain ⟨v2, f2, o2, b2, of2, n2, c2, hv2, L2⟩ := hZr.at' k hkz
        obtain ⟨v3, f3, o3, b3, of3, n3, c3, hv3, L3⟩ := hCr.at' k hkc
        subst hv1 hv2 hv3
        rw [Nat.zero_add] at f1 f2 f3
        have HCL : Hid (∀ (W : World) (p1 p2 : Option Addr) (m1 e1 m2 e2 : Nat), Below wr.heap.size wr W → ((p1, m1, e1, p2, m2, e2) = (o1, n1, c1, o2, n2, c2) ∨ (p1, m1, e1, p2, m2, e2) = (o2, n2, c2, o1, n1, c1) ∨ (p1, m1, e1, p2, m2, e2) = (o3, n3, c3, o1, n1, c1)) → Calls Tryz.prog 27 #[.slice p1 m1 e1, .slice p2 m2 e2, .pointer (some ⟨w.heap.size, 0, none⟩), .pointer (some ⟨w.heap.size + 1, 0, none⟩)] W fun e w' => e = .returned (.bool true) ∧ Below wr.heap.size wr w') := fun W p1 p2 m1 e1 m2 e2 hW hp => by
          have hWz := HBW.out.trans (hW.mono HBW.out.size)
          have hbx := HBX.out W hWz
          rcases hp with h | h | h
          · simp only [Prod.mk.injEq] at h
            obtain ⟨rfl, rfl, rfl, rfl, rfl, rfl⟩ := h
            have hg := go_flows HOK.out HOK5.out (fun x hx => List.mem_reverse.2 hx) hky hkz
            exact (turnC w.heap.size ao po p1 p2 b off b' off' n m c d b1 of1 m1 e1 b2 of2 m2 e2 ls ps ys[k] zs[k] W hbx.1 hbx.2 (HCH.out.later hWz) (L1.later hW) (L2.later hW) hg.1 hg.2).mono fun e w' ⟨h1, h2⟩ => ⟨h1, hW.trans (h2.mono hW.size)⟩
          · simp only [Prod.mk.injEq] at h
            obtain ⟨rfl, rfl, rfl, rfl, rfl, rfl⟩ := h
            have hg := go_flows HOK5.out HOK.out (fun x hx => List.mem_reverse.1 hx) hkz hky
            exact (turnC w.heap.size ao po p1 p2 b off b' off' n m c d b2 of2 m1 e1 b1 of1 m2 e2 ls ps zs[k] ys[k] W hbx.1 hbx.2 (HCH.out.later hWz) (L2.later hW) (L1.later hW) hg.1 hg.2).mono fun e w' ⟨h1, h2⟩ => ⟨h1, hW.trans (h2.mono hW.size)⟩
          · simp only [Prod.mk.injEq] at h
            obtain ⟨rfl, rfl, rfl, rfl, rfl, rfl⟩ := h
            have hg := go_flows HOK7.out HOK.out (fun x hx => List.mem_of_mem_take hx) hkc hky
            exact (turnC w.heap.size ao po p1 p2 b off b' off' n m c d b3 of3 m1 e1 b1 of1 m2 e2 ls ps cs[k] ys[k] W hbx.1 hbx.2 (HCH.out.later hWz) (L3.later hW) (L1.later hW) hg.1 hg.2).mono fun e w' ⟨h1, h2⟩ => ⟨h1, hW.trans (h2.mono hW.size)⟩
        have HF1 : Hid (wr.cell? ⟨rb, k, none⟩ = some (.slice o1 n1 c1)) := f1
        have HF2 : Hid (wr.cell? ⟨rb5, k, none⟩ = some (.slice o2 n2 c2)) := f2
        have HF3 : Hid (wr.cell? ⟨rb7, k, none⟩ = some (.slice o3 n3 c3)) := f3
        clear hAr hZr hCr L1 L2 L3 hky hkz hkc
        subst hr1
        subst hr2
        subst hr3
        go_wp2
        go_region_held3 (fun w' => w'.cell? ⟨rb, k, none⟩ = some (.slice o1 n1 c1) ∧ w'.cell? ⟨rb5, k, none⟩ = some (.slice o2 n2 c2) ∧ w'.cell? ⟨rb7, k, none⟩ = some (.slice o3 n3 c3)) (go_keep)
          (first
            | (go_at_call 27; refine (HCL.out _ _ _ _ _ _ _ (by repeat (first | exact Below.refl _ _ | assumption | refine belowDr ?_)) (by first | exact .inl rfl | exact .inr (.inl rfl) | exact .inr (.inr rfl))).mono ?_; rintro e w8 ⟨rfl, hb8⟩; have y1 := cell_below hb8 HF1.out; have y2 := cell_below hb8 HF2.out; have y3 := cell_below hb8 HF3.out))
        have HB8 : Hid (Below w7.heap.size w7 w8) := HB.out.trans (hb8.mono HB.out.size)
        clear hb8 y1 y2 y3
        go_wp2
        go_roundw
        case rel => exact ⟨k + 1, by omega, by go_num, HB8⟩
        case measure => simp [intOf]; omega
      · go_wp2
        go_ret
        exact ⟨rfl, HBZ.out.trans ((HB7.out.trans (HB.out.mono HB7.out.size)).mono HBZ.out.size)⟩
end Go.Proofs.YtnligpcfkmdjeaaGreatDoor
