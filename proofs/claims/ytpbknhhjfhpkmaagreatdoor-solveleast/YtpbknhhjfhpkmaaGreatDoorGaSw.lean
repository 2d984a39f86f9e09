/- The first error of some bounds, as the law asks for it. What a bound brings, as the document reckons it. The document's BrokenOf. SolveBroken: the law returns true. -/
import Derived.Test.YtpbknhhjfhpkmaaGreatDoorGaSolK
import Derived.Test.YtpbknhhjfhpkmaaGreatDoorCheckR
import Derived.Test.YtpbknhhjfhpkmaaGreatDoorGaRef
import Derived.Test.YtpbknhhjfhpkmaaGreatDoorGaNorm
import Derived.Test.YtpbknhhjfhpkmaaGreatDoorGaErr
import Derived.Test.YtpbknhhjfhpkmaaGreatDoorGaSvA
import Derived.Test.YtpbknhhjfhpkmaaGreatDoorSvB
import Derived.Test.YtpbknhhjfhpkmaaGreatDoorGaSv
namespace Go.Proofs.YtpbknhhjfhpkmaaGreatDoor
open Go.RowKit

theorem chk_is {ls : List ByteArray} {ps : List (ByteArray × ByteArray)} (h0 : checkF ls ps = 0) (x : List Pol) : checkL ls ps x = chk1 ls x := by
  unfold checkL chk1
  rw [if_pos h0]
theorem rng_head {N : Int} {x : RBd} (hN : 0 ≤ N) (h : x.dst < -1 ∨ N ≤ x.dst ∨ 400 < x.src.length) : rngB N x = true := by
  unfold rngB noneB
  rcases h with h | h | h
  · have a : x.dst ≠ -1 := by omega
    have b : x.dst < 0 := by omega
    simp [a, b]
  · have a : x.dst ≠ -1 := by omega
    simp [a, h]
  · simp [h]
theorem rng_src {N : Int} {x : RBd} {i : Int} (hi : i ∈ x.src) (h : noneB N i = true) : rngB N x = true := by
  unfold rngB
  have : x.src.any (noneB N) = true := List.any_eq_true.2 ⟨i, hi, h⟩
  simp [this]
theorem rng_ok {N : Int} {x : RBd} (h1 : ¬ x.dst < -1) (h2 : ¬ N ≤ x.dst) (h3 : ¬ 400 < x.src.length) (h4 : ∀ i ∈ x.src, noneB N i = false) : rngB N x = false := by
  unfold rngB
  have a : x.src.any (noneB N) = false := List.any_eq_false.2 fun i hi => by rw [h4 i hi]; simp
  have b : (decide (x.dst ≠ -1) && noneB N x.dst) = false := by
    by_cases e : x.dst = -1
    · simp [e]
    · unfold noneB
      have c : ¬ x.dst < 0 := by omega
      simp [c, h2]
  rw [a, b]
  simp [h3]
theorem one_rng {ls : List ByteArray} {ps : List (ByteArray × ByteArray)} {N : Int} {x : RBd} (h : rngB N x = true) : oneE ls ps N x = 3 := by
  unfold oneE
  rw [if_pos h]
theorem one_lab {ls : List ByteArray} {ps : List (ByteArray × ByteArray)} {N : Int} {x : RBd} (h0 : checkF ls ps = 0) (h : rngB N x = false) (h1 : chk1 ls x.lab ≠ 0) : oneE ls ps N x = chk1 ls x.lab := by
  unfold oneE
  rw [if_neg (by rw [h]; simp), chk_is h0, if_neg h1]
theorem one_into {ls : List ByteArray} {ps : List (ByteArray × ByteArray)} {N : Int} {x : RBd} (h0 : checkF ls ps = 0) (h : rngB N x = false) (h1 : chk1 ls x.lab = 0) (h2 : chk1 ls x.into ≠ 0) : oneE ls ps N x = chk1 ls x.into := by
  unfold oneE
  rw [if_neg (by rw [h]; simp), chk_is h0, chk_is h0, if_pos h1, if_neg h2]
theorem one_many {ls : List ByteArray} {ps : List (ByteArray × ByteArray)} {N : Int} {x : RBd} (h0 : checkF ls ps = 0) (h : rngB N x = false) (h1 : chk1 ls x.lab = 0) (h2 : chk1 ls x.into = 0) (h3 : 6 < x.by_.length) : oneE ls ps N x = 2 := by
  unfold oneE
  rw [if_neg (by rw [h]; simp), chk_is h0, chk_is h0, if_pos h1, if_pos h2, if_pos h3]
theorem one_who {ls : List ByteArray} {ps : List (ByteArray × ByteArray)} {N : Int} {x : RBd} (h0 : checkF ls ps = 0) (h : rngB N x = false) (h1 : chk1 ls x.lab = 0) (h2 : chk1 ls x.into = 0) (h3 : ¬ 6 < x.by_.length) {s : ByteArray} (hs : s ∈ x.by_) (hn : s ∉ ls) : oneE ls ps N x = 5 := by
  unfold oneE
  rw [if_neg (by rw [h]; simp), chk_is h0, chk_is h0, if_pos h1, if_pos h2, if_neg h3, if_pos (List.any_eq_true.2 ⟨s, hs, by rw [Act.has_not.2 hn]; rfl⟩)]
theorem one_ok {ls : List ByteArray} {ps : List (ByteArray × ByteArray)} {N : Int} {x : RBd} (h0 : checkF ls ps = 0) (h : rngB N x = false) (h1 : chk1 ls x.lab = 0) (h2 : chk1 ls x.into = 0) (h3 : ¬ 6 < x.by_.length) (h4 : ∀ s ∈ x.by_, s ∈ ls) : oneE ls ps N x = 0 := by
  unfold oneE
  have a : ¬ (x.by_.any fun s => !Act.has ls s) = true := by
    rw [List.any_eq_true]
    rintro ⟨s, hs, h⟩
    rw [Act.has_iff.2 (h4 s hs)] at h
    cases h
  rw [if_neg (by rw [h]; simp), chk_is h0, chk_is h0, if_pos h1, if_pos h2, if_neg h3, if_neg a]

set_option maxRecDepth 100000 in
set_option maxHeartbeats 8000000 in
theorem badBd (ao po lo : Option Addr) (b off b' off' n m c d lb loff ln lc : Nat) (N mx : Int) (ls : List ByteArray) (ps : List (ByteArray × ByteArray)) (l : List RBd) (w : World) (hc : Chiefs w ao po b off b' off' n m c ls ps) (hpz : ∀ p ∈ ps, p.1.size ≤ maxLen ∧ p.2.size ≤ maxLen) (hmx : w.cell? ⟨1, 0, none⟩ = some (.int .i64 mx)) (hl : Bds w lo lb loff l) (hn : ln = l.length) (hm : ln ≤ maxLen) :
    Calls Tryz.prog 6 #[.slice ao n c, .slice po m d, .int .i64 N, .slice lo ln lc] w fun e w' => e = .returned (.int .i64 (chkB ls ps N l)) ∧ Below w.heap.size w w' := by
  have hck := checkR_any ao po b off b' off' n m c d mx ls ps w hc hpz hmx
  have HC : Hid (Chiefs w ao po b off b' off' n m c ls ps) := hc
  have HL : Hid (Bds w lo lb loff l) := hl
  have HN : Hid (ln = l.length) := hn
  unfold maxLen at hm
  clear hc hl hn hpz hmx
  by_cases h0 : checkF ls ps = 0
  · have HZ : Hid (checkF ls ps = 0) := h0
    rw [h0] at hck
    clear h0
    by_cases hbig : N < 0 ∨ 400 < N ∨ 400 < ln
    · have HE : Hid (chkB ls ps N l = 2) := by show _ = _; unfold chkB; rw [if_pos HZ.out, if_pos (by rw [← HN.out]; exact hbig)]
      rw [HE.out]
      go_enter Tryz.func6, Tryz.ntmps6
      go_wp2_with fail
      refine hck.mono ?_
      rintro e w1 ⟨rfl, hb1⟩
      have HB1 : Hid (Below w.heap.size w w1) := hb1
      clear hb1 hck
      by_cases h1 : N < 0
      · have d1 : decide (N < 0) = true := by simp [h1]
        go_wp2
        go_ret
        exact ⟨rfl, HB1.out⟩
      · have d1 : decide (N < 0) = false := by simp; omega
        by_cases h2 : 400 < N
        · have d2 : decide (400 < N) = true := by simp [h2]
          go_wp2
          go_ret
          exact ⟨rfl, HB1.out⟩
        · have d2 : decide (400 < N) = false := by simp; omega
          have d3 : decide ((400 : Int) < (ln : Int)) = true := by simp; omega
          have d4 : decide (400 < ln) = true := by simp; omega
          go_wp2
          go_ret
          exact ⟨rfl, HB1.out⟩
    · have HE : Hid (chkB ls ps N l = bdsE ls ps N l) := by show _ = _; unfold chkB; rw [if_pos HZ.out, if_neg (by rw [← HN.out]; exact hbig)]
      rw [HE.out]
      have d1 : decide (N < 0) = false := by simp; omega
      have d2 : decide (400 < N) = false := by simp; omega
      have d3 : decide ((400 : Int) < (ln : Int)) = false := by simp; omega
      have d4 : decide (400 < ln) = false := by simp; omega
      have hl4 : ln ≤ 400 := by omega
      have HN0 : Hid (0 ≤ N) := by show 0 ≤ N; omega
      clear hbig HE
      go_enter Tryz.func6, Tryz.ntmps6
      go_wp2_with fail
      refine hck.mono ?_
      rintro e w1 ⟨rfl, hb1⟩
      have HB1 : Hid (Below w.heap.size w w1) := hb1
      clear hb1 hck
      go_wp2
      clear d1 d2 d3 d4
      go_loopw [38] (fun i wr => ∃ k : Nat, k ≤ ln ∧ i = .int .i64 k ∧ Hid (bdsE ls ps N (l.drop k) = bdsE ls ps N l) ∧ Hid (Below w.heap.size w wr)) (fun i _ => ln - (intOf i).toNat)
      case atStart => exact ⟨0, Nat.zero_le _, rfl, by show _ = _; simp, HB1⟩
      case round =>
        clear HB1
        obtain ⟨k, hk, rfl, HK, HB⟩ := hrel
        by_cases hlt : k < ln
        · have hkl : k < l.length := by have := HN.out; omega
          have hL := HL.out.later HB.out
          have hlo := hL.adr (by omega)
          have hX := hL.at' k hkl
          have hgo := fun h => bdsE_step (ls := ls) (ps := ps) (N := N) hkl h
          have hhit := fun h => bdsE_hit (ls := ls) (ps := ps) (N := N) hkl h
          obtain ⟨x, hx⟩ : ∃ x, x = l[k] := ⟨_, rfl⟩
          rw [← hx] at hX hgo hhit
          have HGO : Hid (oneE ls ps N x = 0 → bdsE ls ps N (l.drop (k + 1)) = bdsE ls ps N l) := fun h => by rw [← HK.out]; exact (hgo h).symm
          have HHIT : Hid (∀ e, oneE ls ps N x = e → e ≠ 0 → bdsE ls ps N l = e) := fun e h1 h2 => by rw [← HK.out, hhit (by rw [h1]; exact h2), h1]
          obtain ⟨x0, x1, x2, x3, x4, x5⟩ := x
          obtain ⟨v0, f0, so, sb, soff, sc, hv0, hsl, hsi⟩ := hX.c0
          obtain ⟨v1, f1, po1, pb1, pf1, pn1, pc1, hv1, hl1⟩ := hX.c1
          have f2 := hX.c2
          obtain ⟨v3, f3, po3, pb3, pf3, pn3, pc3, hv3, hl3⟩ := hX.c3
          have f4 := hX.c4
          obtain ⟨v5, f5, ro, rb, roff, rc, hv5, hr1, hr2, hrs⟩ := hX.c5
          subst hv0 hv1 hv3 hv5
          simp only at f0 f1 f2 f3 f4 f5 hsl hsi hl1 hl3 hr1 hr2 hrs
          obtain ⟨sn, hsn⟩ : ∃ sn, sn = x0.length := ⟨_, rfl⟩
          obtain ⟨rn, hrn⟩ : ∃ rn, rn = x5.length := ⟨_, rfl⟩
          rw [← hsn] at f0 hsl
          rw [← hrn] at f5 hr1
          have HSN : Hid (sn = x0.length) := hsn
          have HRN : Hid (rn = x5.length) := hrn
          obtain ⟨wy, hwy⟩ : ∃ wy, wy = wr.alloc (.cells #[.slice so sn sc, .slice po1 pn1 pc1, .int .i64 x2, .slice po3 pn3 pc3, .int .i64 x4, .slice ro rn rc] 60) := ⟨_, rfl⟩
          have hby : Below wr.heap.size wr wy := by rw [hwy]; exact (Below.refl _ _).alloc (Nat.le_refl _) _
          have HBY : Hid (Below w.heap.size w wy) := HB.out.trans (hby.mono HB.out.size)
          have HKB : Hid (wy.heap[wr.heap.size]? = some (.cells #[.slice so sn sc, .slice po1 pn1 pc1, .int .i64 x2, .slice po3 pn3 pc3, .int .i64 x4, .slice ro rn rc] 60 (0, 0))) := by show _ = _; rw [hwy]; exact heap_at_alloc _ _ _ rfl
          have HSI : Hid (Ints wy so sb soff x0) := hsi.later hby
          have HL1 : Hid (LabAt wy po1 pb1 pf1 pn1 pc1 x1) := hl1.later hby
          have HL3 : Hid (LabAt wy po3 pb3 pf3 pn3 pc3 x3) := hl3.later hby
          have HRS : Hid (Strs wy ro rb roff x5) := hrs.later hby
          have HWY : Hid (wy = wr.alloc (.cells #[.slice so sn sc, .slice po1 pn1 pc1, .int .i64 x2, .slice po3 pn3 pc3, .int .i64 x4, .slice ro rn rc] 60)) := hwy
          unfold maxLen at hsl hr2
          clear hL hX hgo hhit hx hsn hrn hsi hl1 hl3 hrs hby hwy
          subst hlo
          by_cases c1 : x2 < -1
          · have HE : Hid (bdsE ls ps N l = 3) := HHIT.out 3 (one_rng (rng_head HN0.out (.inl c1))) (by decide)
            have d1 : decide (x2 < -1) = true := by simp [c1]
            go_wp2
            go_ret
            refine ⟨?_, by rw [← HWY.out]; exact HBY.out⟩
            rw [HE.out]; rfl
          have d1 : decide (x2 < -1) = false := by simp; omega
          by_cases c2 : N ≤ x2
          · have HE : Hid (bdsE ls ps N l = 3) := HHIT.out 3 (one_rng (rng_head HN0.out (.inr (.inl c2)))) (by decide)
            have d2 : decide (N ≤ x2) = true := by simp [c2]
            go_wp2
            go_ret
            refine ⟨?_, by rw [← HWY.out]; exact HBY.out⟩
            rw [HE.out]; rfl
          have d2 : decide (N ≤ x2) = false := by simp; omega
          by_cases c3 : 400 < sn
          · have HE : Hid (bdsE ls ps N l = 3) := HHIT.out 3 (one_rng (rng_head HN0.out (.inr (.inr (by show 400 < x0.length; have := HSN.out; omega))))) (by decide)
            have d3 : decide ((400 : Int) < (sn : Int)) = true := by simp; omega
            have d4 : decide (400 < sn) = true := by simp; omega
            go_wp2
            go_ret
            refine ⟨?_, by rw [← HWY.out]; exact HBY.out⟩
            rw [HE.out]; rfl
          have d3 : decide ((400 : Int) < (sn : Int)) = false := by simp; omega
          have d4 : decide (400 < sn) = false := by simp; omega
          have HRO : Hid ((∀ i ∈ x0, noneB N i = false) → rngB N ⟨x0, x1, x2, x3, x4, x5⟩ = false) := fun h => rng_ok c1 c2 (by show ¬ 400 < x0.length; have := HSN.out; omega) h
          go_wp2
          rw [← HWY.out]
          clear f0 f1 f2 f3 f4 f5 HWY d1 d2 d3 d4 c1 c2
          obtain ⟨wq, hwq⟩ : ∃ wq, wq = wr := ⟨wr, rfl⟩
          subst hwq
          go_loopw [60] (fun i wx => ∃ j : Nat, j ≤ sn ∧ i = .int .i64 j ∧ Hid (∀ i ∈ x0.take j, noneB N i = false) ∧ wx = wy) (fun i _ => sn - (intOf i).toNat)
          case atStart => exact ⟨0, Nat.zero_le _, rfl, by show ∀ t ∈ _, _; simp, rfl⟩
          case round =>
            obtain ⟨j, hj, rfl, HA, hw⟩ := hrel
            subst hw
            by_cases hlt2 : j < sn
            · have hjl : j < x0.length := by have := HSN.out; omega
              have hso := HSI.out.adr (by omega)
              have g0 := HSI.out.cell j hjl
              obtain ⟨i0, hi0⟩ : ∃ i0, i0 = x0[j] := ⟨_, rfl⟩
              rw [← hi0] at g0
              have HI : Hid (i0 = x0[j]) := hi0
              clear hi0
              subst hso
              by_cases n1 : i0 < 0
              · have e1 : decide (i0 < 0) = true := by simp [n1]
                have HE : Hid (bdsE ls ps N l = 3) := HHIT.out 3 (one_rng (rng_src (i := i0) (by rw [HI.out]; exact List.getElem_mem hjl) (by unfold noneB; simp [n1]))) (by decide)
                go_wp2
                go_ret
                refine ⟨?_, HBY.out⟩
                rw [HE.out]; rfl
              have e1 : decide (i0 < 0) = false := by simp; omega
              by_cases n2 : N ≤ i0
              · have e2 : decide (N ≤ i0) = true := by simp [n2]
                have HE : Hid (bdsE ls ps N l = 3) := HHIT.out 3 (one_rng (rng_src (i := i0) (by rw [HI.out]; exact List.getElem_mem hjl) (by unfold noneB; simp [n2]))) (by decide)
                go_wp2
                go_ret
                refine ⟨?_, HBY.out⟩
                rw [HE.out]; rfl
              have e2 : decide (N ≤ i0) = false := by simp; omega
              have HA2 : Hid (∀ i ∈ x0.take (j + 1), noneB N i = false) := none_step (t := noneB N) hjl HA.out (by rw [← HI.out]; unfold noneB; simp; omega)
              go_wp2
              go_roundw
              case rel => exact ⟨j + 1, by omega, by go_num, HA2, trivial⟩
              case measure => simp [intOf]; omega
            · have HRR : Hid (rngB N ⟨x0, x1, x2, x3, x4, x5⟩ = false) := HRO.out (by
                have h := HA.out
                rwa [List.take_of_length_le (by have := HSN.out; omega)] at h)
              have kk := HKB.out
              have p1 : wr.cell? ⟨wq.heap.size, 1, none⟩ = some (.slice po1 pn1 pc1) := by simp [World.cell?, kk]
              have p3 : wr.cell? ⟨wq.heap.size, 3, none⟩ = some (.slice po3 pn3 pc3) := by simp [World.cell?, kk]
              have lp : wq.heap.size < wr.heap.size := lt_of_block kk
              obtain ⟨wz, hwz⟩ : ∃ wz, wz = wr.alloc (.cells #[.slice po1 pn1 pc1, .slice po3 pn3 pc3] 34) := ⟨_, rfl⟩
              have hbz : Below wr.heap.size wr wz := by rw [hwz]; exact (Below.refl _ _).alloc (Nat.le_refl _) _
              have HBZ : Hid (Below w.heap.size w wz) := HBY.out.trans (hbz.mono HBY.out.size)
              have HKZ : Hid (wz.heap[wr.heap.size]? = some (.cells #[.slice po1 pn1 pc1, .slice po3 pn3 pc3] 34 (0, 0))) := by show _ = _; rw [hwz]; exact heap_at_alloc _ _ _ rfl
              have HKP : Hid (wz.heap[wq.heap.size]? = some (.cells #[.slice so sn sc, .slice po1 pn1 pc1, .int .i64 x2, .slice po3 pn3 pc3, .int .i64 x4, .slice ro rn rc] 60 (0, 0))) := (hbz.block _ lp).trans kk
              have HY1 : Hid (LabAt wz po1 pb1 pf1 pn1 pc1 x1) := HL1.out.later hbz
              have HY3 : Hid (LabAt wz po3 pb3 pf3 pn3 pc3 x3) := HL3.out.later hbz
              have HYR : Hid (Strs wz ro rb roff x5) := HRS.out.later hbz
              have HWZ : Hid (wz = wr.alloc (.cells #[.slice po1 pn1 pc1, .slice po3 pn3 pc3] 34)) := hwz
              clear kk hwz hbz
              go_wp2
              rw [← HWZ.out]
              clear p1 p3 HWZ HL1 HL3 HRS HSI HKB HBY HA HRO
              obtain ⟨Q, hQ⟩ : ∃ Q, Q = wr.heap.size := ⟨_, rfl⟩
              rw [← hQ] at HKZ ⊢
              obtain ⟨wv, hwv⟩ : ∃ wv, wv = wr := ⟨wr, rfl⟩
              subst hwv
              clear hQ
              go_loopw [78] (fun i wx => ∃ j : Nat, j ≤ 2 ∧ i = .int .i64 j ∧ Hid (0 < j → chk1 ls x1 = 0) ∧ Hid (1 < j → chk1 ls x3 = 0) ∧ Hid (Below wz.heap.size wz wx)) (fun i _ => 2 - (intOf i).toNat)
              case atStart => exact ⟨0, by omega, rfl, fun h => absurd h (by omega), fun h => absurd h (by omega), Below.refl _ _⟩
              case round =>
                obtain ⟨j, hj, rfl, HJ1, HJ2, HBX⟩ := hrel
                have HBW : Hid (Below w.heap.size w wr) := HBZ.out.trans (HBX.out.mono HBZ.out.size)
                by_cases hlt3 : j < 2
                · have kz := (HBX.out.block _ (lt_of_block HKZ.out)).trans HKZ.out
                  have lq : Q < wr.heap.size := lt_of_block kz
                  have key : ∃ yo yb yf yn yc y, wr.cell? ⟨Q, j, none⟩ = some (.slice yo yn yc) ∧ LabAt wr yo yb yf yn yc y ∧ (chk1 ls y ≠ 0 → bdsE ls ps N l = chk1 ls y) ∧ (chk1 ls y = 0 → (0 < j + 1 → chk1 ls x1 = 0) ∧ (1 < j + 1 → chk1 ls x3 = 0)) := by
                    match j, hlt3 with
                    | 0, _ => exact ⟨po1, pb1, pf1, pn1, pc1, x1, by simp [World.cell?, kz], HY1.out.later HBX.out, fun h => HHIT.out _ (one_lab HZ.out HRR.out h) h, fun h => ⟨fun _ => h, fun h' => absurd h' (by omega)⟩⟩
                    | 1, _ => exact ⟨po3, pb3, pf3, pn3, pc3, x3, by simp [World.cell?, kz], HY3.out.later HBX.out, fun h => HHIT.out _ (one_into HZ.out HRR.out (HJ1.out (by omega)) h) h, fun h => ⟨fun _ => HJ1.out (by omega), fun _ => h⟩⟩
                  obtain ⟨yo, yb, yf, yn, yc, y, f0, hy, hbad, hok⟩ := key
                  have hC := HC.out.later HBW.out
                  have hcl := checkLabelR ao yo b off n c yb yf yn yc ls y wr hC.ln hC.mn hC.strs hy
                  have HBAD : Hid (chk1 ls y ≠ 0 → bdsE ls ps N l = chk1 ls y) := hbad
                  have HOK : Hid (chk1 ls y = 0 → (0 < j + 1 → chk1 ls x1 = 0) ∧ (1 < j + 1 → chk1 ls x3 = 0)) := hok
                  have hd : decide ((j : Int) < 2) = true := by simp; omega
                  obtain ⟨e0, he0⟩ : ∃ e0, e0 = chk1 ls y := ⟨_, rfl⟩
                  rw [← he0] at hcl HBAD HOK
                  clear he0 hC hy kz hbad hok HJ1 HJ2
                  by_cases hz : e0 = 0
                  · subst hz
                    have HO1 : Hid (0 < j + 1 → chk1 ls x1 = 0) := (HOK.out rfl).1
                    have HO2 : Hid (1 < j + 1 → chk1 ls x3 = 0) := (HOK.out rfl).2
                    clear HOK HBAD
                    go_wp2_with fail
                    refine hcl.mono ?_
                    rintro e w2 ⟨rfl, hb2⟩
                    have HB2 : Hid (Below wz.heap.size wz w2) := HBX.out.trans (hb2.mono HBX.out.size)
                    clear hb2 hcl
                    go_wp2
                    go_roundw
                    case rel => exact ⟨j + 1, by omega, by go_num, HO1, HO2, HB2⟩
                    case measure => simp [intOf]; omega
                  · have HE : Hid (bdsE ls ps N l = e0) := HBAD.out hz
                    have bn : (e0 == 0) = false := by simp [hz]
                    have bb : (e0 != 0) = true := by simp [hz]
                    clear HBAD HOK hz
                    go_wp2_with fail
                    refine hcl.mono ?_
                    rintro e w2 ⟨rfl, hb2⟩
                    have HB2 : Hid (Below w.heap.size w w2) := HBW.out.trans (hb2.mono HBW.out.size)
                    clear hb2 hcl
                    go_wp2
                    go_ret
                    refine ⟨?_, HB2.out⟩
                    rw [HE.out]; rfl
                · have H1 : Hid (chk1 ls x1 = 0) := HJ1.out (by omega)
                  have H3 : Hid (chk1 ls x3 = 0) := HJ2.out (by omega)
                  have hd : decide ((j : Int) < 2) = false := by simp; omega
                  have kp := (HBX.out.block _ (lt_of_block HKP.out)).trans HKP.out
                  have p5 : wr.cell? ⟨wq.heap.size, 5, none⟩ = some (.slice ro rn rc) := by simp [World.cell?, kp]
                  have lp2 : wq.heap.size < wr.heap.size := lt_of_block kp
                  clear kp HJ1 HJ2
                  by_cases h6 : 6 < rn
                  · have HE : Hid (bdsE ls ps N l = 2) := HHIT.out 2 (one_many HZ.out HRR.out H1.out H3.out (by show 6 < x5.length; have := HRN.out; omega)) (by decide)
                    have i6 : decide ((6 : Int) < (rn : Int)) = true := by simp; omega
                    have j6 : decide (6 < rn) = true := by simp; omega
                    go_wp2
                    go_ret
                    refine ⟨?_, HBW.out⟩
                    rw [HE.out]; rfl
                  · have i6 : decide ((6 : Int) < (rn : Int)) = false := by simp; omega
                    have j6 : decide (6 < rn) = false := by simp; omega
                    have HSX : Hid (Strs wr ro rb roff x5) := HYR.out.later HBX.out
                    go_wp2
                    clear i6 j6 p5
                    obtain ⟨wu, hwu⟩ : ∃ wu, wu = wr := ⟨wr, rfl⟩
                    subst hwu
                    go_loopw [96] (fun i wx => ∃ t : Nat, t ≤ rn ∧ i = .int .i64 t ∧ Hid (∀ s ∈ x5.take t, s ∈ ls) ∧ wx = wu) (fun i _ => rn - (intOf i).toNat)
                    case atStart => exact ⟨0, Nat.zero_le _, rfl, by show ∀ t ∈ _, _; simp, rfl⟩
                    case round =>
                      obtain ⟨t, ht, rfl, HA, hw⟩ := hrel
                      subst hw
                      by_cases hlt4 : t < rn
                      · have htl : t < x5.length := by have := HRN.out; omega
                        have hro := HSX.out.adr (by omega)
                        have g0 := HSX.out.cell t htl
                        obtain ⟨s, hs⟩ : ∃ s, s = x5[t] := ⟨_, rfl⟩
                        rw [← hs] at g0
                        have HSJ : Hid (s = x5[t]) := hs
                        have hC := HC.out.later HBW.out
                        have hct := contains_any ao b off n c ls s wr hC.ln hC.mn hC.strs
                        clear hs hC
                        subst hro
                        cases hh : Act.has ls s with
                        | true =>
                          rw [hh] at hct
                          have HA2 : Hid (∀ s ∈ x5.take (t + 1), s ∈ ls) := all_step htl HA.out (by rw [← HSJ.out]; exact Act.has_iff.1 hh)
                          clear hh
                          go_wp2_with fail
                          refine hct.mono ?_
                          rintro e w1 ⟨rfl, hw⟩
                          have hw' := hw.symm
                          subst hw'
                          go_wp2
                          go_roundw
                          case rel => exact ⟨t + 1, by omega, by go_num, HA2, trivial⟩
                          case measure => simp [intOf]; omega
                        | false =>
                          rw [hh] at hct
                          have HE : Hid (bdsE ls ps N l = 5) := HHIT.out 5 (one_who HZ.out HRR.out H1.out H3.out (by show ¬ 6 < x5.length; have := HRN.out; omega) (s := s) (by show s ∈ x5; rw [HSJ.out]; exact List.getElem_mem htl) (Act.has_not.1 hh)) (by decide)
                          clear hh
                          go_wp2_with fail
                          refine hct.mono ?_
                          rintro e w1 ⟨rfl, hw⟩
                          have hw' := hw.symm
                          subst hw'
                          go_wp2
                          go_ret
                          refine ⟨?_, HBW.out⟩
                          rw [HE.out]; rfl
                      · have HK2 : Hid (bdsE ls ps N (l.drop (k + 1)) = bdsE ls ps N l) := HGO.out (one_ok HZ.out HRR.out H1.out H3.out (by show ¬ 6 < x5.length; have := HRN.out; omega) (by
                          have h := HA.out
                          rwa [List.take_of_length_le (by have := HRN.out; omega)] at h))
                        go_wp2
                        go_roundw
                        case rel => exact ⟨k + 1, by omega, by go_num, HK2, HBW⟩
                        case measure => simp [intOf]; omega
        · have HES : Hid (bdsE ls ps N l = 0) := by
            have e := HK.out
            rw [List.drop_of_length_le (by have := HN.out; omega)] at e
            show _ = _
            rw [← e]; rfl
          go_wp2
          go_ret
          refine ⟨?_, HB.out⟩
          rw [HES.out]; rfl
  · have HE : Hid (chkB ls ps N l = checkF ls ps) := by show _ = _; unfold chkB; rw [if_neg h0]
    rw [HE.out]
    obtain ⟨e0, he0⟩ : ∃ e0, e0 = checkF ls ps := ⟨_, rfl⟩
    rw [← he0] at hck h0 ⊢
    have bn : (e0 == 0) = false := by simp [h0]
    have bb : (e0 != 0) = true := by simp [h0]
    clear he0 h0 HE
    go_enter Tryz.func6, Tryz.ntmps6
    go_wp2_with fail
    refine hck.mono ?_
    rintro e w1 ⟨rfl, hb1⟩
    go_wp2
    go_ret
    exact ⟨rfl, hb1⟩
end Go.Proofs.YtpbknhhjfhpkmaaGreatDoor

namespace Go.Proofs.YtpbknhhjfhpkmaaGreatDoor
open Go.RowKit

/- A right label. -/
structure LbOK (ls : List ByteArray) (y : List Pol) : Prop where
  of : Lab.OfL ls y
  few : y.length ≤ 200
  six : ∀ p ∈ y, p.2.length ≤ 6
def bringT (hv : List (List Pol)) (x : RBd) (j : Nat) : List Pol := x.lab ++ (x.src.take j).flatMap fun i => hv.getD i.toNat []
def bringL (hv : List (List Pol)) (x : RBd) : List Pol := x.lab ++ x.src.flatMap fun i => hv.getD i.toNat []
theorem bring_step {hv : List (List Pol)} {x : RBd} {j t : Nat} (hj : j < x.src.length) (h : x.src[j] = (t : Int)) (ht : t < hv.length) : bringT hv x (j + 1) = bringT hv x j ++ hv[t] := by
  unfold bringT
  rw [List.take_succ_eq_append_getElem hj, List.flatMap_append, h, ← List.append_assoc]
  simp [List.getD, ht]
theorem bring_all {hv : List (List Pol)} {x : RBd} {j : Nat} (h : x.src.length ≤ j) : bringT hv x j = bringL hv x := by
  unfold bringT bringL
  rw [List.take_of_length_le h]
theorem getD_ok {ls : List ByteArray} {hv : List (List Pol)} (h : ∀ y ∈ hv, LbOK ls y) (k : Nat) : LbOK ls (hv.getD k []) := by
  by_cases hk : k < hv.length
  · have e : hv.getD k [] = hv[k] := by simp [List.getD, hk]
    rw [e]
    exact h _ (List.getElem_mem hk)
  · have e : hv.getD k [] = [] := by simp [List.getD, hk]
    rw [e]
    exact ⟨fun p hp => (by cases hp), Nat.zero_le _, fun p hp => (by cases hp)⟩
theorem bring_ok {ls : List ByteArray} {hv : List (List Pol)} {x : RBd} (h1 : LbOK ls x.lab) (h2 : ∀ y ∈ hv, LbOK ls y) (j : Nat) : Lab.OfL ls (bringT hv x j) ∧ (bringT hv x j).length ≤ 200 + 200 * j ∧ ∀ p ∈ bringT hv x j, p.2.length ≤ 6 := by
  have mem : ∀ p ∈ bringT hv x j, Lab.Of ls p ∧ p.2.length ≤ 6 := fun p hp => by
    rcases List.mem_append.1 hp with h | h
    · exact ⟨h1.of p h, h1.six p h⟩
    · obtain ⟨i, _, h⟩ := List.mem_flatMap.1 h
      have := getD_ok h2 i.toNat
      exact ⟨this.of p h, this.six p h⟩
  refine ⟨fun p hp => (mem p hp).1, ?_, fun p hp => (mem p hp).2⟩
  unfold bringT
  rw [List.length_append]
  have h3 := Lab.flat_len (l := x.src.take j) (f := fun i => hv.getD i.toNat []) (m := 200) fun i _ => (getD_ok h2 i.toNat).few
  have h4 : (x.src.take j).length ≤ j := by rw [List.length_take]; omega
  have h5 : (x.src.take j).length * 200 ≤ j * 200 := Nat.mul_le_mul_right _ h4
  have h6 := h1.few
  omega
theorem eqlP (ao : Option Addr) (n c : Nat) (w : World) : (binOp .eql 34 (.slice ao n c) (.slice none 0 0)).run Tryz.prog w = .ok (.bool ao.isNone) w := by
  show (Bind.bind (Op.equal 34 (.slice ao n c) (.slice none 0 0)) fun r => (Pure.pure (Value.bool r) : Sem Value)).run Tryz.prog w = _
  simp [run_equal_slice_nil w 34 63 ao n c Tryz.underlying34]

set_option maxHeartbeats 1000000 in
theorem cloneP (a : Addr) (n c : Nat) (news : List Value) (w : World) (hl : news.length = n * 2) (hm : n ≤ 1000) (hc : ∀ j u, news[j]? = some u → w.cell? (a.add j) = some u) (h1 : ∀ u ∈ news, u.oneCell' = true) :
    Calls Tryz.prog 62 #[.slice (some a) n c] w fun e w' => ∃ v, e = .returned v ∧ w'.ownsRow w.heap.size 63 2 v n news ∧ Below w.heap.size w w' := by
  have HL : Hid (news.length = n * 2) := hl
  have HC : Hid (∀ j u, news[j]? = some u → w.cell? (a.add j) = some u) := hc
  have H1 : Hid (∀ u ∈ news, u.oneCell' = true) := h1
  clear hl hc h1
  obtain ⟨i0, hi, hz0, hz1, hz2⟩ := info_parts Tryz.infoPolD
  have hnil := fun wx => eqlP (some a) n c wx
  simp only [Option.isNone_some] at hnil
  go_enter Tryz.func62, Tryz.ntmps62
  have HO : Hid ((w.alloc (.cells #[] 63)).ownsRow w.heap.size 63 2 (.slice (some ⟨w.heap.size, 0, none⟩) 0 0) 0 []) :=
    ⟨rfl, .inr ⟨w.heap.size, 0, #[], rfl, Nat.le_refl _, heap_at_alloc _ _ _ rfl, Nat.le_refl _, by simp [maxLen], rfl, rfl⟩⟩
  go_wp2_with (at_builtin; refine wpList_append_own _ rfl _ _ 34 rfl w.heap.size 63 i0 (.agg #[.string ⟨#[]⟩, .slice none 0 0]) 2 40 Tryz.underlying34 hi hz0 hz1 hz2 rfl (by decide) _ _ _ rfl HO.out a n c news rfl ?c0 ?c1 ?c2 ?c3 ?c4 ?c5 ?_)
  case c0 => rw [HL.out]
  case c1 =>
    have hb : Below w.heap.size w (w.alloc (.cells #[] 63)) := (Below.refl _ _).alloc (Nat.le_refl _) _
    exact fun j u hu => cell_below hb (HC.out j u hu)
  case c2 => exact H1.out
  case c3 => unfold maxLen; omega
  case c4 => omega
  case c5 => simp
  · intro v' w2 hown2 hgrow2 _
    have HB : Hid (Below w.heap.size w w2) := ((Below.refl w.heap.size w).alloc (Nat.le_refl _) _).grown hgrow2 (by simp) (fun k he => by simp [Value.ownBlock] at he; omega)
    have HW : Hid (w2.ownsRow w.heap.size 63 2 v' n news) := by
      show World.ownsRow _ _ _ _ _ _ _
      simpa using hown2
    clear hown2 hgrow2
    go_wp2
    go_ret
    exact ⟨_, rfl, HW.out, HB.out⟩
set_option maxHeartbeats 1000000 in
theorem clonePn (n c : Nat) (w : World) : Calls Tryz.prog 62 #[.slice none n c] w fun e w' => e = .returned (.slice none 0 0) ∧ w' = w := by
  have hnil := fun wx => eqlP none n c wx
  simp only [Option.isNone_none] at hnil
  go_enter Tryz.func62, Tryz.ntmps62
  go_wp2
  go_ret
  exact ⟨rfl, rfl⟩
theorem clonePol (lo : Option Addr) (lb loff ln lc : Nat) (x : List Pol) (w : World) (hx : Pols w lo lb loff x) (hn : ln = x.length) (hm : ln ≤ 1000) :
    Calls Tryz.prog 62 #[.slice lo ln lc] w fun e w' => ∃ v, e = .returned v ∧ LfSt w w' v x := by
  obtain ⟨O, hO, hR⟩ := prow_of hx
  have hOl : O.length = x.length := by rw [← hO, List.length_map]
  cases lo with
  | none =>
    have h0 : x.length = 0 := by
      apply Classical.byContradiction
      intro hne
      have := hx.adr (by omega)
      cases this
    have e : O = [] := List.length_eq_zero_iff.1 (by omega)
    refine (clonePn ln lc w).mono ?_
    rintro e' w' ⟨rfl, rfl⟩
    refine ⟨_, rfl, Below.refl _ _, O, hO, ?_, hR.rd⟩
    rw [e]
    exact World.ownsRow_nil _ _ _ _
  | some a =>
    refine (cloneP a ln lc (polC O) w (by rw [polC_len, hOl, hn]) hm (fun j u hu => ?_) (prow_one hR)).mono ?_
    · have hj : j < O.length * 2 := by
        have := (List.getElem?_eq_some_iff.1 hu).1
        rwa [polC_len] at this
      have ha : some a = some ⟨lb, loff, none⟩ := hR.adr (by omega)
      injection ha with ha
      subst ha
      exact prow_cells_off hR j u hu
    · rintro e w1 ⟨v, rfl, hown, hb1⟩
      exact ⟨v, rfl, hb1, O, hO, by rw [hOl, ← hn]; exact hown, hR.rd⟩

set_option maxRecDepth 100000 in
set_option maxHeartbeats 4000000 in
theorem bringsR (po ho so po1 po3 ro : Option Addr) (b off m d hb hoff hn hc sb soff sn sc pb1 pf1 pn1 pc1 pn3 pc3 rb roff rn rc : Nat) (x2 x4 : Int) (ls : List ByteArray) (ps : List (ByteArray × ByteArray)) (hv : List (List Pol)) (x : RBd) (w : World) (hp : Pairs w po b off m ps) (hr : Act.Right ls ps) (h66 : ls.length ≤ 6) (hnm : ∀ s ∈ ls, Lex.nameF s.data.toList = true)
    (hhv : LbsAt w ho hb hoff hv) (hhn : hn = hv.length) (hok : ∀ y ∈ hv, LbOK ls y) (hsn : sn = x.src.length) (hs : Ints w so sb soff x.src) (h4 : sn ≤ 400) (hsr : ∀ i ∈ x.src, 0 ≤ i ∧ i < hv.length) (hl : LabAt w po1 pb1 pf1 pn1 pc1 x.lab) (hlk : LbOK ls x.lab) (hrn : rn = x.by_.length) (hr6 : rn ≤ 6) (hrs : Strs w ro rb roff x.by_) (hbs : ∀ s ∈ x.by_, s ∈ ls) :
    Calls Tryz.prog 28 #[.slice po m d, .slice ho hn hc, .agg #[.slice so sn sc, .slice po1 pn1 pc1, .int .i64 x2, .slice po3 pn3 pc3, .int .i64 x4, .slice ro rn rc]] w fun e w' => ∃ (v : Value) (y : List Pol), e = .returned v ∧ Lab.Norm blt plt ps (leftF ls ps (bringL hv x) x.by_) y ∧ LabNew w' w.heap.size v y ∧ Below w.heap.size w w' := by
  obtain ⟨wz, hwz⟩ : ∃ wz, wz = w.alloc (.cells #[.slice so sn sc, .slice po1 pn1 pc1, .int .i64 x2, .slice po3 pn3 pc3, .int .i64 x4, .slice ro rn rc] 60) := ⟨_, rfl⟩
  have hbz : Below w.heap.size w wz := by rw [hwz]; exact (Below.refl _ _).alloc (Nat.le_refl _) _
  have HKZ : Hid (wz.heap[w.heap.size]? = some (.cells #[.slice so sn sc, .slice po1 pn1 pc1, .int .i64 x2, .slice po3 pn3 pc3, .int .i64 x4, .slice ro rn rc] 60 (0, 0))) := by show _ = _; rw [hwz]; exact heap_at_alloc _ _ _ rfl
  have HWZ : Hid (wz = w.alloc (.cells #[.slice so sn sc, .slice po1 pn1 pc1, .int .i64 x2, .slice po3 pn3 pc3, .int .i64 x4, .slice ro rn rc] 60)) := hwz
  have HBZ : Hid (Below w.heap.size w wz) := hbz
  have HP : Hid (Pairs wz po b off m ps) := hp.later hbz
  have HR : Hid (Act.Right ls ps) := hr
  have HSIX : Hid (ls.length ≤ 6) := h66
  have HNM : Hid (∀ s ∈ ls, Lex.nameF s.data.toList = true) := hnm
  have HHV : Hid (LbsAt wz ho hb hoff hv) := hhv.later hbz
  have HHN : Hid (hn = hv.length) := hhn
  have HOK : Hid (∀ y ∈ hv, LbOK ls y) := hok
  have HSN : Hid (sn = x.src.length) := hsn
  have HSI : Hid (Ints wz so sb soff x.src) := hs.later hbz
  have HSR : Hid (∀ i ∈ x.src, 0 ≤ i ∧ i < hv.length) := hsr
  have HRN : Hid (rn = x.by_.length) := hrn
  have HRS : Hid (Strs wz ro rb roff x.by_) := hrs.later hbz
  have HBS : Hid (∀ s ∈ x.by_, s ∈ ls) := hbs
  have HBK : Hid (∀ j, Lab.OfL ls (bringT hv x j) ∧ (bringT hv x j).length ≤ 200 + 200 * j ∧ ∀ p ∈ bringT hv x j, p.2.length ≤ 6) := fun j => bring_ok hlk hok j
  have HB0 : Hid (bringT hv x 0 = x.lab) := by show _ = _; simp [bringT]
  have hcl := clonePol po1 pb1 pf1 pn1 pc1 x.lab wz (hl.pols.later hbz) hl.ln (by have := hl.ln; have := hlk.few; omega)
  obtain ⟨i0, hi, hz0, hz1, hz2⟩ := info_parts Tryz.infoPolD
  clear hp hr h66 hnm hhv hhn hok hsn hs hsr hl hlk hrn hrs hbs hbz hwz
  go_enter Tryz.func28, Tryz.ntmps28
  go_wp2_with fail
  rw [← HWZ.out]
  refine hcl.mono ?_
  rintro e w1 ⟨v1, rfl, hst⟩
  have HS1 : Hid (LfSt wz w1 v1 (bringT hv x 0)) := by show LfSt _ _ _ _; rw [HB0.out]; exact hst
  have hk1 := (hst.1.block _ (lt_of_block HKZ.out)).trans HKZ.out
  have q0 : w1.cell? ⟨w.heap.size, 0, none⟩ = some (.slice so sn sc) := by simp [World.cell?, hk1]
  have lq : w.heap.size < w1.heap.size := lt_of_block hk1
  clear hcl hst hk1 HWZ HB0
  go_wp2
  clear q0 lq
  go_loopw [7, 16] (fun v i wr => ∃ j : Nat, j ≤ sn ∧ i = .int .i64 j ∧ Hid (LfSt wz wr v (bringT hv x j))) (fun _ i _ => sn - (intOf i).toNat)
  case atStart => exact ⟨0, Nat.zero_le _, rfl, HS1⟩
  case round =>
    clear HS1
    obtain ⟨j, hj, rfl, HS⟩ := hrel
    obtain ⟨hbel, O, hO, hown, hrd⟩ := HS.out
    have HB : Hid (Below wz.heap.size wz wr) := hbel
    have HO : Hid (O.map (·.1) = bringT hv x j) := hO
    have HRD : Hid (∀ y ∈ O, ReadersAt wz y.2 y.1.2) := hrd
    obtain ⟨ao', cap', hv7⟩ := slice_of hown
    obtain ⟨N, hN⟩ : ∃ N, N = O.length := ⟨_, rfl⟩
    rw [← hN] at hv7 hown
    subst hv7
    have HNO : Hid (N = O.length) := hN
    have hNj : N ≤ 200 + 200 * j := by
      have h9 := congrArg List.length hO
      rw [List.length_map] at h9
      have := (HBK.out j).2.1
      omega
    have hcap := (own_cap hown).1
    have HOW : Hid (wr.ownsRow wz.heap.size 63 2 (.slice ao' N cap') N (polC O)) := hown
    clear HS hbel hO hown hrd hN
    by_cases hlt : j < sn
    · have hjl : j < x.src.length := by have := HSN.out; omega
      have hso := HSI.out.adr (by omega)
      have g0 := (HSI.out.later HB.out).cell j hjl
      obtain ⟨t, ht⟩ : ∃ t : Nat, x.src[j] = (t : Int) := by
        have := (HSR.out _ (List.getElem_mem hjl)).1
        exact ⟨x.src[j].toNat, by omega⟩
      have htl : t < hv.length := by
        have := (HSR.out _ (List.getElem_mem hjl)).2
        omega
      have hst := bring_step hjl ht htl
      rw [ht] at g0
      have hV := HHV.out.later HB.out
      have hho := hV.adr (by omega)
      obtain ⟨v2, g2, yo, yb, yf, yn, yc, hv2, hy⟩ := hV.at' t htl
      subst hv2
      have hy2 := (HOK.out _ (List.getElem_mem htl)).few
      have hyn := hy.ln
      have hy20 : yn ≤ 200 := by omega
      have hty : t < hn := by have := HHN.out; omega
      obtain ⟨L, hL, hLR⟩ := prow_of hy.pols
      have hLl : L.length = yn := by rw [← List.length_map (f := (·.1)), hL, ← hyn]
      have HST : Hid (bringT hv x (j + 1) = bringT hv x j ++ L.map (·.1)) := by show _ = _; rw [hst, hL]
      have HLL : Hid (L.length = yn) := hLl
      have HLR : Hid (PRow wr yo yb yf L) := hLR
      have HLW : Hid (∀ y ∈ L, ReadersAt wz y.2 y.1.2) := fun z hz => by
        obtain ⟨v3, f3, zo, zb, zf, zn, zc, hv3, hz3⟩ := HHV.out.at' t htl
        obtain ⟨L3, hL3, hR3⟩ := prow_of hz3.pols
        have e1 : Value.slice zo zn zc = Value.slice yo yn yc := by
          have := cell_below HB.out f3
          rw [g2, hv3] at this
          injection this with this
          exact this.symm
        injection e1 with e1 e2 e3
        subst e1 e2 e3
        obtain ⟨k, hk, rfl⟩ := List.mem_iff_getElem.1 hz
        have hk3 : k < L3.length := by
          have a1 : L3.length = L.length := by rw [← List.length_map (f := (·.1)), hL3, ← hL, List.length_map]
          omega
        have hpos : 0 < L.length := by omega
        have hpos3 : 0 < L3.length := by omega
        have a1 := hLR.adr hpos
        have a2 := hR3.adr hpos3
        rw [a1] at a2
        injection a2 with a2
        injection a2 with a3 a4 _
        subst a3 a4
        have c3 := cell_below HB.out (hR3.c1 k hk3)
        rw [hLR.c1 k hk] at c3
        injection c3 with c3
        have e5 : L3[k].1 = L[k].1 := by
          have b1 : L3[k].1 = (L3.map (·.1))[k]'(by simpa using hk3) := by simp
          have b2 : L[k].1 = (L.map (·.1))[k]'(by simpa using hk) := by simp
          rw [b1, b2]
          simp only [hL3, hL]
        rw [c3, ← e5]
        exact hR3.rd _ (List.getElem_mem hk3)
      clear hst hV hy hyn hL hLR hLl ht
      subst hso
      subst hho
      by_cases hy0 : yn = 0
      · have hLe : L = [] := List.length_eq_zero_iff.1 (by rw [HLL.out]; exact hy0)
        have HC2 : Hid (bringT hv x (j + 1) = bringT hv x j) := by show _ = _; rw [HST.out, hLe]; simp
        subst hy0
        have HAN : Hid (∀ ty wx, (Builtin.append_ #[34, 34] ty #[.slice ao' N cap', .slice yo 0 yc]).run Tryz.prog wx = .ok (.slice ao' N cap') wx) := fun ty wx => appendN_none ao' yo N cap' yc ty wx hcap
        have HF : Hid (LfSt wz wr (.slice ao' N cap') (bringT hv x (j + 1))) := by
          show LfSt _ _ _ _
          rw [HC2.out]
          exact ⟨HB.out, O, HO.out, by rw [← HNO.out]; exact HOW.out, HRD.out⟩
        clear hLe hcap
        go_wp2_with (at_builtin; refine Lib.wpList_append_run _ rfl _ _ _ _ rfl _ _ rfl rfl _ _ (HAN.out _ _) ?_)
        go_roundw
        case rel => exact ⟨j + 1, by omega, by go_num, HF⟩
        case measure => simp [intOf]; omega
      · have hyo := HLR.out.adr (by have := HLL.out; omega)
        subst hyo
        have hbig : wz.heap.size ≤ wr.heap.size := HB.out.size
        have HON : Hid (∀ u ∈ polC L, u.oneCell' = true) := prow_one HLR.out
        have HC1 : Hid (∀ j u, (polC L)[j]? = some u → wr.cell? ((⟨yb, yf, none⟩ : Addr).add j) = some u) := prow_cells_off HLR.out
        go_wp2_with (at_builtin; refine wpList_append_own _ rfl _ _ 34 rfl wz.heap.size 63 i0 (.agg #[.string ⟨#[]⟩, .slice none 0 0]) 2 40 Tryz.underlying34 hi hz0 hz1 hz2 rfl (by decide) _ _ _ rfl HOW.out ⟨yb, yf, none⟩ yn yc (polC L) rfl ?c0 HC1.out HON.out ?c3 ?c4 ?c5 ?_)
        case c0 => rw [polC_len, HLL.out]
        case c3 => unfold maxLen; omega
        case c4 => omega
        case c5 => omega
        · intro v' w3 hown3 hgrow3 _
          have hlo : ∀ k, (Value.slice ao' N cap').ownBlock = some k → wz.heap.size ≤ k := fun k he => (HOW.out.lt _ he).1
          have HF : Hid (LfSt wz w3 v' (bringT hv x (j + 1))) := by
            refine ⟨HB.out.grown hgrow3 HB.out.size (fun k he => hlo k he), O ++ L, by rw [List.map_append, HST.out, HO.out], ?_, fun y hy => ?_⟩
            · rw [List.length_append, ← HNO.out, HLL.out]
              have e : polC (O ++ L) = polC O ++ polC L := by simp [polC]
              rw [e]
              exact hown3
            · rcases List.mem_append.1 hy with hy | hy
              · exact HRD.out y hy
              · exact HLW.out y hy
          clear hown3 hgrow3 hlo
          go_wp2
          go_roundw
          case rel => exact ⟨j + 1, by omega, by go_num, HF⟩
          case measure => simp [intOf]; omega
    · obtain ⟨b2, off2, hP⟩ := pols_own HNO.out HOW.out (fun y hy => (HRD.out y hy).later HB.out)
      have hO' : O.map (·.1) = bringL hv x := by rw [HO.out, bring_all (by have := HSN.out; omega)]
      have hbk := HBK.out j
      rw [← HO.out] at hbk
      have hle := lessOf po ao' ro b off m d b2 off2 N cap' rb roff rn rc ls ps (O.map (·.1)) x.by_ wr (HP.out.later HB.out) HR.out HSIX.out (by rw [List.length_map]; exact HNO.out) (by omega) hP hbk.1 HNM.out hbk.2.2 HRN.out (by omega) (HRS.out.later HB.out) HBS.out
      rw [hO'] at hle
      have hk1 := (HB.out.block _ (lt_of_block HKZ.out)).trans HKZ.out
      have q5 : wr.cell? ⟨w.heap.size, 5, none⟩ = some (.slice ro rn rc) := by simp [World.cell?, hk1]
      have lq : w.heap.size < wr.heap.size := lt_of_block hk1
      clear hP hO' hbk hk1
      go_wp2_with fail
      refine hle.mono ?_
      rintro e w2 ⟨v, y, rfl, hy, hl2, hb2⟩
      have HF : Hid (Lab.Norm blt plt ps (leftF ls ps (bringL hv x) x.by_) y ∧ LabNew w2 w.heap.size v y ∧ Below w.heap.size w w2) := ⟨hy, by
        obtain ⟨M, k1, k2, k3⟩ := hl2
        exact ⟨M, k1, ownsRow_le' k2 (Nat.le_trans HBZ.out.size HB.out.size), k3⟩, HBZ.out.trans ((HB.out.trans (hb2.mono HB.out.size)).mono HBZ.out.size)⟩
      clear hy hl2 hb2 hle
      go_wp2
      go_ret
      exact ⟨v, y, rfl, HF.out⟩
end Go.Proofs.YtpbknhhjfhpkmaaGreatDoor

namespace Go.Proofs.YtpbknhhjfhpkmaaGreatDoor
open Go.RowKit

theorem goes_left {ls : List ByteArray} {ps : List (ByteArray × ByteArray)} {bs : List ByteArray} {p : Pol} (hr : Act.Right ls ps) (hb : ∀ s ∈ bs, s ∈ ls) (hp : p.1 ∈ ls) : goesB ls ps bs p = true ↔ Lab.Left ps bs p := by
  unfold goesB
  rw [List.any_eq_true]
  exact ⟨fun ⟨a, ha, h⟩ => ⟨a, ha, (Act.acts_iff hr (hb a ha) hp).1 h⟩, fun ⟨a, ha, h⟩ => ⟨a, ha, (Act.acts_iff hr (hb a ha) hp).2 h⟩⟩
theorem bring_mem {hv : List (List Pol)} {x : RBd} {p : Pol} : p ∈ bringL hv x ↔ Sol.all (toB x) (Sol.hs hv) p := by
  unfold bringL Sol.all toB Sol.hs
  rw [List.mem_append, List.mem_flatMap]
  refine or_congr Iff.rfl ?_
  simp only [List.mem_map]
  exact ⟨fun ⟨i, hi, h⟩ => ⟨_, ⟨i, hi, rfl⟩, h⟩, fun ⟨_, ⟨i, hi, e⟩, h⟩ => ⟨i, hi, by rw [e]; exact h⟩⟩
theorem left_mem {ls : List ByteArray} {ps : List (ByteArray × ByteArray)} {hv : List (List Pol)} {x : RBd} (hr : Act.Right ls ps) (hb : ∀ s ∈ x.by_, s ∈ ls) (ho : Lab.OfL ls (bringL hv x)) (p : Pol) : p ∈ leftF ls ps (bringL hv x) x.by_ ↔ Sol.brings ps (toB x) (Sol.hs hv) p := by
  unfold leftF Sol.brings Sol.less
  rw [List.mem_filter]
  constructor
  · rintro ⟨h1, h2⟩
    refine ⟨bring_mem.1 h1, fun h3 => ?_⟩
    rw [(goes_left hr hb (ho p h1).1).2 h3] at h2
    cases h2
  · rintro ⟨h1, h2⟩
    have h1' := bring_mem.2 h1
    refine ⟨h1', ?_⟩
    cases h : goesB ls ps x.by_ p with
    | false => rfl
    | true => exact absurd ((goes_left hr hb (ho p h1').1).1 h) h2
/- Whether a bound is held, as the document reckons it. -/
theorem brk_one {ls : List ByteArray} {ps : List (ByteArray × ByteArray)} {hv : List (List Pol)} {x : RBd} {y g : List Pol} (hr : Act.Right ls ps) (hb : ∀ s ∈ x.by_, s ∈ ls) (ho : Lab.OfL ls (bringL hv x)) (hy : Lab.Norm blt plt ps (leftF ls ps (bringL hv x) x.by_) y) (hoy : Lab.OfL ls y) (hog : Lab.OfL ls g) (hg : ∀ p, p ∈ g ↔ Sol.goal (toB x) (Sol.hs hv) p) : Lab.flowsB ls ps y g = true ↔ Sol.holds ps (toB x) (Sol.hs hv) := by
  rw [Lab.flows_iff hr hoy hog]
  have h1 : Sol.go ps (Sol.brings ps (toB x) (Sol.hs hv)) (fun p => p ∈ y) := Sol.go_trans (Sol.go_sub fun q hq => (left_mem hr hb ho q).2 hq) (Sol.go_mayGo.2 (Lab.norm_to blt_order plt_order hy))
  have h2 : Sol.go ps (fun p => p ∈ y) (Sol.brings ps (toB x) (Sol.hs hv)) := Sol.go_trans (Sol.go_mayGo.2 (Lab.norm_from hy)) (Sol.go_sub fun q hq => (left_mem hr hb ho q).1 hq)
  constructor
  · intro h
    exact Sol.go_trans h1 (Sol.go_trans (Sol.go_mayGo.2 h) (Sol.go_sub fun q hq => (hg q).1 hq))
  · intro h
    exact Sol.go_mayGo.1 (Sol.go_trans h2 (Sol.go_trans h (Sol.go_sub fun q hq => (hg q).2 hq)))
theorem good_new {w : World} {base : Nat} {v : Value} {ls : List ByteArray} {y : List Pol} (h : LabNew w base v y) (ho : Lab.OfL ls y) (hl : y.length ≤ 1000) (h6 : ∀ p ∈ y, p.2.length ≤ 6) : ∃ ao b off cap, v = .slice ao y.length cap ∧ Good w ao b off y.length ls y := by
  obtain ⟨M, rfl, hown, hrd⟩ := h
  obtain ⟨ao, cap, hv⟩ := slice_of hown
  subst hv
  have e : (M.map (·.1)).length = M.length := List.length_map _
  obtain ⟨b, off, hp⟩ := pols_own e hown hrd
  exact ⟨ao, b, off, cap, rfl, rfl, hl, hp, ho, fun p hp => by have := h6 p hp; omega⟩
theorem good_lab {w : World} {lo : Option Addr} {lb loff ln lc : Nat} {ls : List ByteArray} {x : List Pol} (h : LabAt w lo lb loff ln lc x) (hk : LbOK ls x) : Good w lo lb loff ln ls x := ⟨h.ln, by have := h.ln; have := hk.few; omega, h.pols, hk.of, fun p hp => by have := hk.six p hp; omega⟩
theorem lbok_of {ls : List ByteArray} {ps : List (ByteArray × ByteArray)} {x : List Pol} (h : checkL ls ps x = 0) : LbOK ls x := by
  obtain ⟨_, h1, h2, h3⟩ := checkL_ok h
  exact ⟨h2, h1, h3⟩
def brkX (bk : Nat → Bool) (k : Nat) : List Int := ((List.range k).filter bk).map Int.ofNat
theorem brkX_step (bk : Nat → Bool) (k : Nat) : brkX bk (k + 1) = brkX bk k ++ (if bk k = true then [(k : Int)] else []) := by
  unfold brkX
  rw [List.range_succ, List.filter_append, List.map_append]
  congr 1
  cases h : bk k <;> simp [h]
theorem brkX_len (bk : Nat → Bool) (k : Nat) : (brkX bk k).length ≤ k := by
  unfold brkX
  rw [List.length_map]
  exact Nat.le_trans (List.length_filter_le _ _) (by simp)
def IntSt (w wr : World) (v : Value) (xs : List Int) : Prop := Below w.heap.size w wr ∧ wr.ownsRow w.heap.size 3 1 v xs.length (xs.map (Value.int .i64))
/- What a bound must be. -/
structure BdOK (ls : List ByteArray) (N : Nat) (x : RBd) : Prop where
  good : GoodB ls N x
  lab : LbOK ls x.lab
  into : LbOK ls x.into
theorem bdok_of {ls : List ByteArray} {ps : List (ByteArray × ByteArray)} {N : Nat} {x : RBd} (h : oneE ls ps N x = 0) : BdOK ls N x := by
  refine ⟨good_of h, ?_, ?_⟩
  · unfold oneE at h
    split at h
    · cases h
    · split at h
      · exact lbok_of ‹_›
      · rename_i h1
        exact absurd h h1
  · unfold oneE at h
    split at h
    · cases h
    · split at h
      · split at h
        · exact lbok_of ‹_›
        · rename_i h1
          exact absurd h h1
      · rename_i h1
        exact absurd h h1

set_option maxRecDepth 100000 in
set_option maxHeartbeats 8000000 in
theorem brokenR (po ho lo : Option Addr) (b off m d hb hoff hn hc lb loff ln lc : Nat) (ls : List ByteArray) (ps : List (ByteArray × ByteArray)) (hv : List (List Pol)) (l : List RBd) (bk : Nat → Bool) (w : World) (hp : Pairs w po b off m ps) (hr : Act.Right ls ps) (h66 : ls.length ≤ 6) (hnm : ∀ s ∈ ls, Lex.nameF s.data.toList = true)
    (hhv : LbsAt w ho hb hoff hv) (hhn : hn = hv.length) (hok : ∀ y ∈ hv, LbOK ls y) (hl : Bds w lo lb loff l) (hln : ln = l.length) (hlm : ln ≤ 400) (hbd : ∀ x ∈ l, BdOK ls hv.length x) (hbk : ∀ k (h : k < l.length), bk k = true ↔ ¬ Sol.holds ps (toB l[k]) (Sol.hs hv)) :
    Calls Tryz.prog 17 #[.slice po m d, .slice ho hn hc, .slice lo ln lc] w fun e w' => ∃ v, e = .returned v ∧ IntSt w w' v (brkX bk l.length) := by
  have HP : Hid (Pairs w po b off m ps) := hp
  have HR : Hid (Act.Right ls ps) := hr
  have HSIX : Hid (ls.length ≤ 6) := h66
  have HNM : Hid (∀ s ∈ ls, Lex.nameF s.data.toList = true) := hnm
  have HHV : Hid (LbsAt w ho hb hoff hv) := hhv
  have HHN : Hid (hn = hv.length) := hhn
  have HOK : Hid (∀ y ∈ hv, LbOK ls y) := hok
  have HL : Hid (Bds w lo lb loff l) := hl
  have HLN : Hid (ln = l.length) := hln
  have HBD : Hid (∀ x ∈ l, BdOK ls hv.length x) := hbd
  have HBK : Hid (∀ k (h : k < l.length), bk k = true ↔ ¬ Sol.holds ps (toB l[k]) (Sol.hs hv)) := hbk
  obtain ⟨i0, hi, hz0, hz1, hz2⟩ := info_parts Tryz.infoIntD
  clear hp hr h66 hnm hhv hhn hok hl hln hbd hbk
  go_enter Tryz.func17, Tryz.ntmps17
  go_wp2
  go_loopw [7, 13] (fun v i wr => ∃ k : Nat, k ≤ ln ∧ i = .int .i64 k ∧ Hid (IntSt w wr v (brkX bk k))) (fun _ i _ => ln - (intOf i).toNat)
  case atStart => exact ⟨0, Nat.zero_le _, rfl, Below.refl _ _, World.ownsRow_nil _ _ _ _⟩
  case round =>
    obtain ⟨k, hk, rfl, HS⟩ := hrel
    obtain ⟨hbel, hown⟩ := HS.out
    have HB : Hid (Below w.heap.size w wr) := hbel
    obtain ⟨ao', cap', hv7⟩ := slice_of hown
    obtain ⟨N, hN⟩ : ∃ N, N = (brkX bk k).length := ⟨_, rfl⟩
    rw [← hN] at hv7 hown
    subst hv7
    have HNO : Hid (N = (brkX bk k).length) := hN
    have hNk : N ≤ k := by rw [hN]; exact brkX_len bk k
    have HOW : Hid (wr.ownsRow w.heap.size 3 1 (.slice ao' N cap') N ((brkX bk k).map (Value.int .i64))) := hown
    clear HS hbel hown hN
    by_cases hlt : k < ln
    · have hkl : k < l.length := by have := HLN.out; omega
      have hL := HL.out.later HB.out
      have hlo := hL.adr (by omega)
      have hX := hL.at' k hkl
      have hbk := HBK.out k hkl
      have hbd := HBD.out _ (List.getElem_mem hkl)
      obtain ⟨x, hx⟩ : ∃ x, x = l[k] := ⟨_, rfl⟩
      rw [← hx] at hX hbk hbd
      obtain ⟨v0, f0, so, sb, soff, sc, hv0, hsl, hsi⟩ := hX.c0
      obtain ⟨v1, f1, po1, pb1, pf1, pn1, pc1, hv1, hl1⟩ := hX.c1
      have f2 := hX.c2
      obtain ⟨v3, f3, po3, pb3, pf3, pn3, pc3, hv3, hl3⟩ := hX.c3
      have f4 := hX.c4
      obtain ⟨v5, f5, ro, rb, roff, rc, hv5, hr1, hr2, hrs⟩ := hX.c5
      subst hv0 hv1 hv3 hv5
      obtain ⟨sn, hsn⟩ : ∃ sn, sn = x.src.length := ⟨_, rfl⟩
      obtain ⟨rn, hrn⟩ : ∃ rn, rn = x.by_.length := ⟨_, rfl⟩
      rw [← hsn] at f0 hsl
      rw [← hrn] at f5 hr1
      obtain ⟨x2, hx2⟩ : ∃ x2, x2 = x.dst := ⟨_, rfl⟩
      obtain ⟨x4, hx4⟩ : ∃ x4, x4 = x.pos := ⟨_, rfl⟩
      rw [← hx2] at f2
      rw [← hx4] at f4
      have HX2 : Hid (x2 = x.dst) := hx2
      obtain ⟨wy, hwy⟩ : ∃ wy, wy = wr.alloc (.cells #[.slice so sn sc, .slice po1 pn1 pc1, .int .i64 x2, .slice po3 pn3 pc3, .int .i64 x4, .slice ro rn rc] 60) := ⟨_, rfl⟩
      have hby : Below wr.heap.size wr wy := by rw [hwy]; exact (Below.refl _ _).alloc (Nat.le_refl _) _
      have HBY : Hid (Below wr.heap.size wr wy) := hby
      have hbr := bringsR po ho so po1 po3 ro b off m d hb hoff hn hc sb soff sn sc pb1 pf1 pn1 pc1 pn3 pc3 rb roff rn rc x2 x4 ls ps hv x wy ((HP.out.later HB.out).later hby) HR.out HSIX.out HNM.out ((HHV.out.later HB.out).later hby) HHN.out HOK.out hsn (hsi.later hby) (by rw [hsn]; exact hbd.good.few) hbd.good.src (hl1.later hby) hbd.lab hrn (by rw [hrn]; exact hbd.good.by6) (hrs.later hby) hbd.good.by_
      have HBO : Hid (Lab.OfL ls (bringL hv x)) := by
        have h9 := (bring_ok hbd.lab HOK.out x.src.length).1
        rw [bring_all (Nat.le_refl _)] at h9
        exact h9
      have HB6 : Hid (∀ p ∈ bringL hv x, p.2.length ≤ 6) := by
        have h9 := (bring_ok hbd.lab HOK.out x.src.length).2.2
        rw [bring_all (Nat.le_refl _)] at h9
        exact h9
      have HL3 : Hid (LabAt wy po3 pb3 pf3 pn3 pc3 x.into) := hl3.later hby
      have HBDX : Hid (BdOK ls hv.length x) := hbd
      have HBKX : Hid (bk k = true ↔ ¬ Sol.holds ps (toB x) (Sol.hs hv)) := hbk
      have HWY : Hid (wy = wr.alloc (.cells #[.slice so sn sc, .slice po1 pn1 pc1, .int .i64 x2, .slice po3 pn3 pc3, .int .i64 x4, .slice ro rn rc] 60)) := hwy
      have HBR : Hid (Calls Tryz.prog 28 #[.slice po m d, .slice ho hn hc, .agg #[.slice so sn sc, .slice po1 pn1 pc1, .int .i64 x2, .slice po3 pn3 pc3, .int .i64 x4, .slice ro rn rc]] wy fun e w' => ∃ (v : Value) (y : List Pol), e = .returned v ∧ Lab.Norm blt plt ps (leftF ls ps (bringL hv x) x.by_) y ∧ LabNew w' wy.heap.size v y ∧ Below wy.heap.size wy w') := hbr
      clear hL hX hx hsn hrn hsi hl1 hl3 hrs hby hwy hbk hbd hbr hx2 hx4 hsl hr1 hr2
      subst hlo
      by_cases hd : x2 = -1
      · have d0 : decide (0 ≤ x2) = false := by simp; omega
        have HG : Hid (∃ gb gf gl, LabAt wy po3 gb gf pn3 pc3 gl ∧ LbOK ls gl ∧ ∀ p, p ∈ gl ↔ Sol.goal (toB x) (Sol.hs hv) p) := by
          refine ⟨pb3, pf3, x.into, HL3.out, HBDX.out.into, fun p => ?_⟩
          have e : (toB x).dst = -1 := by show x.dst = -1; rw [← HX2.out]; exact hd
          unfold Sol.goal
          rw [if_pos e]
          exact Iff.rfl
        clear hd
        go_wp2_with fail
        rw [← HWY.out]
        refine HBR.out.mono ?_
        rintro e w2 ⟨v, y, rfl, hy, hly, hb2⟩
        obtain ⟨hoy, hy1, hy6, _⟩ := norm_ok HSIX.out (fun p hp => HBO.out p (List.mem_filter.1 hp).1) (fun p hp => HB6.out p (List.mem_filter.1 hp).1) hy
        obtain ⟨yo, yb, yf, yc, hv9, hgy⟩ := good_new hly hoy (by omega) hy6
        subst hv9
        obtain ⟨gb', gf', gl, hgl, hgk, hgg⟩ := HG.out
        have hfl := mayGoR po yo po3 b off m d yb yf y.length yc gb' gf' pn3 pc3 ls ps y gl w2 (((HP.out.later HB.out).later HBY.out).later hb2) HR.out hgy (good_lab (hgl.later hb2) hgk)
        have hone := brk_one HR.out HBDX.out.good.by_ HBO.out hy hoy hgk.of hgg
        have hfb : Lab.flowsB ls ps y gl = !bk k := by
          rw [Bool.eq_iff_iff, hone]
          have h9 := HBKX.out
          cases hq : bk k with
          | true => rw [hq] at h9; simpa using h9
          | false => rw [hq] at h9; simpa using h9
        rw [hfb] at hfl
        have HB2 : Hid (Below wr.heap.size wr w2) := HBY.out.trans (hb2.mono HBY.out.size)
        obtain ⟨yn, hyn⟩ : ∃ yn, yn = y.length := ⟨_, rfl⟩
        rw [← hyn] at hfl ⊢
        clear hy hly hb2 hoy hy1 hy6 hgy hgl hgk hgg hone hfb hyn
        have hst := brkX_step bk k
        obtain ⟨t0, ht0⟩ : ∃ t0, t0 = bk k := ⟨_, rfl⟩
        rw [← ht0] at hst hfl
        have HST : Hid (brkX bk (k + 1) = brkX bk k ++ (if t0 = true then [(k : Int)] else [])) := hst
        clear hst ht0 HBKX
        cases t0 with
        | false =>
          go_wp2_with fail
          refine hfl.mono ?_
          rintro e w3 ⟨rfl, hb3⟩
          have HB3 : Hid (Below wr.heap.size wr w3) := HB2.out.trans (hb3.mono HB2.out.size)
          clear hb3 hfl
          have HF : Hid (IntSt w w3 (.slice ao' N cap') (brkX bk (k + 1))) := by
            refine ⟨HB.out.trans (HB3.out.mono HB.out.size), ?_⟩
            have e : brkX bk (k + 1) = brkX bk k := by rw [HST.out]; simp
            rw [e, ← HNO.out]
            exact own_below HOW.out HB3.out
          go_wp2
          go_roundw
          case rel => exact ⟨k + 1, by omega, by go_num, HF⟩
          case measure => simp [intOf]; omega
        | true =>
          go_wp2_with fail
          refine hfl.mono ?_
          rintro e w3 ⟨rfl, hb3⟩
          have HB3 : Hid (Below wr.heap.size wr w3) := HB2.out.trans (hb3.mono HB2.out.size)
          clear hb3 hfl
          have HBW : Hid (Below w.heap.size w w3) := HB.out.trans (HB3.out.mono HB.out.size)
          have HOW2 : Hid (w3.ownsRow w.heap.size 3 1 (.slice ao' N cap') N ((brkX bk k).map (Value.int .i64))) := own_below HOW.out HB3.out
          have hbig : w.heap.size ≤ w3.heap.size := HBW.out.size
          go_wp2_with (at_builtin; refine wpList_append_own _ rfl _ _ 40 rfl w.heap.size 3 i0 (.int .i64 0) 1 8 Tryz.underlying40 hi hz0 hz1 hz2 rfl (by decide) _ _ _ rfl (World.ownsRow.alloc HOW2.out _) ⟨w3.heap.size, 0, none⟩ 1 1 [.int .i64 (k : Int)] rfl rfl ?c1 ?c2 ?c3 ?c4 ?c5 ?_)
          case c1 => exact one_new _ _ _
          case c2 => intro u hu; simp at hu; subst hu; rfl
          case c3 => unfold maxLen; omega
          case c4 => omega
          case c5 => simp; omega
          · intro v5 w5 hown5 hgrow5 _
            have hlo5 : ∀ k, (Value.slice ao' N cap').ownBlock = some k → w.heap.size ≤ k := fun k he => (HOW2.out.lt _ he).1
            have HF : Hid (IntSt w w5 v5 (brkX bk (k + 1))) := by
              refine ⟨(HBW.out.alloc HBW.out.size _).grown hgrow5 (by simp; omega) (fun k he => hlo5 k he), ?_⟩
              have e : brkX bk (k + 1) = brkX bk k ++ [(k : Int)] := by rw [HST.out]; simp
              rw [e, List.length_append, ← HNO.out, List.map_append]
              exact hown5
            clear hown5 hgrow5 hlo5
            go_wp2
            go_roundw
            case rel => exact ⟨k + 1, by omega, by go_num, HF⟩
            case measure => simp [intOf]; omega
      · obtain ⟨t, ht, htl⟩ : ∃ t : Nat, x2 = (t : Int) ∧ t < hv.length := by
          rcases HBDX.out.good.dst with h | h
          · exact absurd (HX2.out.trans h) hd
          · rw [HX2.out]; exact h
        subst ht
        have htn : t < hn := by have := HHN.out; omega
        have d0 : decide ((0 : Int) ≤ (t : Int)) = true := by simp
        have hV := HHV.out.later HB.out
        have hho := hV.adr (by omega)
        obtain ⟨v2, g2, go, gb, gf, gn, gc, hv2, hy⟩ := hV.at' t htl
        subst hv2
        have lhb : hb < wr.heap.size := World.block_lt_of_cell? wr _ g2
        have HG : Hid (∃ gb gf gl, LabAt wy go gb gf gn gc gl ∧ LbOK ls gl ∧ ∀ p, p ∈ gl ↔ Sol.goal (toB x) (Sol.hs hv) p) := by
          refine ⟨gb, gf, hv[t], hy.later HBY.out, HOK.out _ (List.getElem_mem htl), fun p => ?_⟩
          have e : (toB x).dst = (t : Int) := HX2.out.symm
          have hne : ¬ (toB x).dst = -1 := by rw [e]; omega
          unfold Sol.goal
          rw [if_neg hne, e, Int.toNat_natCast]
          simp [Sol.hs, List.getD, htl]
        clear hV hy
        subst hho
        go_wp2_with fail
        rw [← HWY.out]
        refine HBR.out.mono ?_
        rintro e w2 ⟨v, y, rfl, hy, hly, hb2⟩
        obtain ⟨hoy, hy1, hy6, _⟩ := norm_ok HSIX.out (fun p hp => HBO.out p (List.mem_filter.1 hp).1) (fun p hp => HB6.out p (List.mem_filter.1 hp).1) hy
        obtain ⟨yo, yb, yf, yc, hv9, hgy⟩ := good_new hly hoy (by omega) hy6
        subst hv9
        obtain ⟨gb', gf', gl, hgl, hgk, hgg⟩ := HG.out
        have hfl := mayGoR po yo go b off m d yb yf y.length yc gb' gf' gn gc ls ps y gl w2 (((HP.out.later HB.out).later HBY.out).later hb2) HR.out hgy (good_lab (hgl.later hb2) hgk)
        have hone := brk_one HR.out HBDX.out.good.by_ HBO.out hy hoy hgk.of hgg
        have hfb : Lab.flowsB ls ps y gl = !bk k := by
          rw [Bool.eq_iff_iff, hone]
          have h9 := HBKX.out
          cases hq : bk k with
          | true => rw [hq] at h9; simpa using h9
          | false => rw [hq] at h9; simpa using h9
        rw [hfb] at hfl
        have HB2 : Hid (Below wr.heap.size wr w2) := HBY.out.trans (hb2.mono HBY.out.size)
        obtain ⟨yn, hyn⟩ : ∃ yn, yn = y.length := ⟨_, rfl⟩
        rw [← hyn] at hfl ⊢
        clear hy hly hb2 hoy hy1 hy6 hgy hgl hgk hgg hone hfb hyn
        have hst := brkX_step bk k
        obtain ⟨t0, ht0⟩ : ∃ t0, t0 = bk k := ⟨_, rfl⟩
        rw [← ht0] at hst hfl
        have HST : Hid (brkX bk (k + 1) = brkX bk k ++ (if t0 = true then [(k : Int)] else [])) := hst
        clear hst ht0 HBKX
        cases t0 with
        | false =>
          go_wp2_with fail
          refine hfl.mono ?_
          rintro e w3 ⟨rfl, hb3⟩
          have HB3 : Hid (Below wr.heap.size wr w3) := HB2.out.trans (hb3.mono HB2.out.size)
          clear hb3 hfl
          have HF : Hid (IntSt w w3 (.slice ao' N cap') (brkX bk (k + 1))) := by
            refine ⟨HB.out.trans (HB3.out.mono HB.out.size), ?_⟩
            have e : brkX bk (k + 1) = brkX bk k := by rw [HST.out]; simp
            rw [e, ← HNO.out]
            exact own_below HOW.out HB3.out
          go_wp2
          go_roundw
          case rel => exact ⟨k + 1, by omega, by go_num, HF⟩
          case measure => simp [intOf]; omega
        | true =>
          go_wp2_with fail
          refine hfl.mono ?_
          rintro e w3 ⟨rfl, hb3⟩
          have HB3 : Hid (Below wr.heap.size wr w3) := HB2.out.trans (hb3.mono HB2.out.size)
          clear hb3 hfl
          have HBW : Hid (Below w.heap.size w w3) := HB.out.trans (HB3.out.mono HB.out.size)
          have HOW2 : Hid (w3.ownsRow w.heap.size 3 1 (.slice ao' N cap') N ((brkX bk k).map (Value.int .i64))) := own_below HOW.out HB3.out
          have hbig : w.heap.size ≤ w3.heap.size := HBW.out.size
          go_wp2_with (at_builtin; refine wpList_append_own _ rfl _ _ 40 rfl w.heap.size 3 i0 (.int .i64 0) 1 8 Tryz.underlying40 hi hz0 hz1 hz2 rfl (by decide) _ _ _ rfl (World.ownsRow.alloc HOW2.out _) ⟨w3.heap.size, 0, none⟩ 1 1 [.int .i64 (k : Int)] rfl rfl ?c1 ?c2 ?c3 ?c4 ?c5 ?_)
          case c1 => exact one_new _ _ _
          case c2 => intro u hu; simp at hu; subst hu; rfl
          case c3 => unfold maxLen; omega
          case c4 => omega
          case c5 => simp; omega
          · intro v5 w5 hown5 hgrow5 _
            have hlo5 : ∀ k, (Value.slice ao' N cap').ownBlock = some k → w.heap.size ≤ k := fun k he => (HOW2.out.lt _ he).1
            have HF : Hid (IntSt w w5 v5 (brkX bk (k + 1))) := by
              refine ⟨(HBW.out.alloc HBW.out.size _).grown hgrow5 (by simp; omega) (fun k he => hlo5 k he), ?_⟩
              have e : brkX bk (k + 1) = brkX bk k ++ [(k : Int)] := by rw [HST.out]; simp
              rw [e, List.length_append, ← HNO.out, List.map_append]
              exact hown5
            clear hown5 hgrow5 hlo5
            go_wp2
            go_roundw
            case rel => exact ⟨k + 1, by omega, by go_num, HF⟩
            case measure => simp [intOf]; omega
    · have HF : Hid (IntSt w wr (.slice ao' N cap') (brkX bk l.length)) := by
        have e : l.length = k := by have := HLN.out; omega
        show IntSt _ _ _ _
        rw [e]
        exact ⟨HB.out, by rw [← HNO.out]; exact HOW.out⟩
      go_wp2
      go_ret
      exact ⟨_, rfl, HF.out⟩
end Go.Proofs.YtpbknhhjfhpkmaaGreatDoor

namespace Go.Proofs.YtpbknhhjfhpkmaaGreatDoor
open Go.RowKit

theorem hvE_snoc {ls : List ByteArray} {ps : List (ByteArray × ByteArray)} {y : List Pol} : ∀ a : List (List Pol), hvE ls ps (a ++ [y]) = if hvE ls ps a = 0 then checkL ls ps y else hvE ls ps a
  | [] => by
    show hvE ls ps [y] = _
    rw [hvE, hvE, if_pos rfl]
    split
    · rename_i h; rw [h]; rfl
    · rfl
  | z :: r => by
    show hvE ls ps (z :: (r ++ [y])) = _
    rw [hvE, hvE, hvE_snoc r]
    split
    · rfl
    · rfl
def badS (ls : List ByteArray) (ps : List (ByteArray × ByteArray)) (hv : List (List Pol)) (c : Int) (k : Nat) : Int := if c = 0 then hvE ls ps (hv.take k) else c
theorem badS_zero (ls : List ByteArray) (ps : List (ByteArray × ByteArray)) (hv : List (List Pol)) (c : Int) : badS ls ps hv c 0 = c := by
  unfold badS
  split
  · rename_i h; rw [h]; rfl
  · rfl
theorem badS_go {ls : List ByteArray} {ps : List (ByteArray × ByteArray)} {hv : List (List Pol)} {c : Int} {k : Nat} (hk : k < hv.length) (h : badS ls ps hv c k = 0) : c = 0 ∧ badS ls ps hv c (k + 1) = checkL ls ps hv[k] := by
  unfold badS at h ⊢
  split at h
  · rename_i h0
    refine ⟨h0, ?_⟩
    rw [if_pos h0, List.take_succ_eq_append_getElem hk, hvE_snoc, if_pos h]
  · rename_i h0
    exact absurd h h0
theorem badS_stay {ls : List ByteArray} {ps : List (ByteArray × ByteArray)} {hv : List (List Pol)} {c : Int} {k : Nat} (hk : k < hv.length) (h : badS ls ps hv c k ≠ 0) : badS ls ps hv c (k + 1) = badS ls ps hv c k := by
  unfold badS at h ⊢
  split
  · rename_i h0
    rw [if_pos h0] at h
    rw [List.take_succ_eq_append_getElem hk, hvE_snoc, if_neg h]
  · rfl
theorem badS_all {ls : List ByteArray} {ps : List (ByteArray × ByteArray)} {hv : List (List Pol)} {l : List RBd} : badS ls ps hv (chkB ls ps (hv.length : Int) l) hv.length = brkE ls ps hv l := by
  unfold badS brkE
  rw [List.take_of_length_le (Nat.le_refl _)]
theorem chkB_parts {ls : List ByteArray} {ps : List (ByteArray × ByteArray)} {nh : Nat} {l : List RBd} (h0 : chkB ls ps (nh : Int) l = 0) : checkF ls ps = 0 ∧ nh ≤ 400 ∧ l.length ≤ 400 ∧ ∀ x ∈ l, oneE ls ps (nh : Int) x = 0 := by
  unfold chkB at h0
  split at h0
  · rename_i hF
    split at h0
    · cases h0
    · rename_i hr
      exact ⟨hF, by omega, by omega, bdsE_zero h0⟩
  · rename_i hF
    exact absurd h0 hF
theorem pairs_sw {w : World} {ao po : Option Addr} {b off b' off' n m c : Nat} {ls : List ByteArray} {ps : List (ByteArray × ByteArray)} (hc : Chiefs w ao po b off b' off' n m c ls ps) (h : checkF ls ps = 0) : Pairs w po b' off' m ps := by
  obtain ⟨_, h2, _, _⟩ := right_of h
  exact ⟨hc.lm, by have := hc.lm; omega, hc.prs⟩
/- What solve.Broken came to. -/
def BrkRes (w : World) (ls : List ByteArray) (ps : List (ByteArray × ByteArray)) (hv : List (List Pol)) (l : List RBd) (xo : Option Addr) (xn : Nat) (e0 : Int) : Prop :=
  (brkE ls ps hv l ≠ 0 ∧ xn = 0 ∧ e0 = brkE ls ps hv l) ∨ (brkE ls ps hv l = 0 ∧ e0 = 0 ∧ xn ≤ 1000 ∧ ∃ xb xs, xn = xs.length ∧ Ints w xo xb 0 xs ∧ BrkOK ps hv l xs)

set_option maxRecDepth 100000 in
set_option maxHeartbeats 8000000 in
theorem law_broken (ao po lo ho : Option Addr) (b off b' off' n m c d lb loff ln lc hb hoff hc : Nat) (mx : Int) (ls : List ByteArray) (ps : List (ByteArray × ByteArray)) (hv : List (List Pol)) (l : List RBd) (w : World) (hch : Chiefs w ao po b off b' off' n m c ls ps) (hpz : ∀ p ∈ ps, p.1.size ≤ maxLen ∧ p.2.size ≤ maxLen) (hmx : w.cell? ⟨1, 0, none⟩ = some (.int .i64 mx)) (hl : Bds w lo lb loff l) (hn : ln = l.length) (hm : ln ≤ maxLen) (hhv : LbsAt w ho hb hoff hv) (hhm : hv.length ≤ maxLen) (hT : TzTab w) :
    Calls Tryz.prog 4 #[.slice ao n c, .slice po m d, .slice ho hv.length hc, .slice lo ln lc] w fun e w' => e = .returned (.bool true) ∧ Below w.heap.size w w' := by
  have hbr := brokenL ao po lo ho b off b' off' n m c d lb loff ln lc hb hoff hc ls ps hv l w hch hl hn hm hhv hhm hT
  obtain ⟨nh, hnh⟩ : ∃ nh, nh = hv.length := ⟨_, rfl⟩
  rw [← hnh] at hhm hbr ⊢
  have HNH : Hid (nh = hv.length) := hnh
  have HCH : Hid (Chiefs w ao po b off b' off' n m c ls ps) := hch
  have HBD : Hid (Bds w lo lb loff l) := hl
  have HHV : Hid (LbsAt w ho hb hoff hv) := hhv
  have HT : Hid (TzTab w) := hT
  have HLN : Hid (ln = l.length) := hn
  have HLM : Hid (ln ≤ maxLen) := hm
  have HPZ : Hid (∀ p ∈ ps, p.1.size ≤ maxLen ∧ p.2.size ≤ maxLen) := hpz
  have HMX : Hid (w.cell? ⟨1, 0, none⟩ = some (.int .i64 mx)) := hmx
  have hhm' : nh ≤ 9223372036854775807 := hhm
  clear hch hl hhv hT hn hm hnh hpz hmx hhm
  go_enter Tryz.func4, Tryz.ntmps4
  go_wp2_with fail
  refine hbr.mono ?_
  clear hbr
  intro e w1 hres
  obtain ⟨hb1, xo, xn, xc, e0, rfl, hres'⟩ : Below w.heap.size w w1 ∧ ∃ xo xn xc e0, e = .returned (.tuple #[.slice xo xn xc, .int .i64 e0]) ∧ BrkRes w1 ls ps hv l xo xn e0 := by
    obtain ⟨hb1, ⟨hne, rfl⟩ | ⟨hz, xo, xb, xc, xs, rfl, hxm, hxs, hbk⟩⟩ := hres
    · exact ⟨hb1, none, 0, 0, _, rfl, .inl ⟨hne, rfl, rfl⟩⟩
    · exact ⟨hb1, xo, xs.length, xc, 0, rfl, .inr ⟨hz, rfl, hxm, xb, xs, rfl, hxs, hbk⟩⟩
  have HRES : Hid (BrkRes w1 ls ps hv l xo xn e0) := hres'
  have HB1 : Hid (Below w.heap.size w w1) := hb1
  have hbad := badBd ao po lo b off b' off' n m c d lb loff ln lc (nh : Int) mx ls ps l w1 (HCH.out.later hb1) HPZ.out (cell_below hb1 HMX.out) (HBD.out.later hb1) HLN.out HLM.out
  obtain ⟨E, hE⟩ : ∃ E, E = chkB ls ps (nh : Int) l := ⟨_, rfl⟩
  rw [← hE] at hbad
  have HE : Hid (E = chkB ls ps (nh : Int) l) := hE
  clear hres hres' hb1 hE
  go_wp2_with fail
  refine hbad.mono ?_
  rintro e w2 ⟨rfl, hb2⟩
  have HB2 : Hid (Below w1.heap.size w1 w2) := hb2
  have HS0 : Hid (badS ls ps hv E 0 = E) := badS_zero ls ps hv E
  clear hb2 hbad
  go_wp2
  go_loopw [11, 30] (fun v i wr => ∃ k : Nat, k ≤ nh ∧ i = .int .i64 k ∧ v = .int .i64 (badS ls ps hv E k) ∧ Hid (Below w1.heap.size w1 wr)) (fun _ i _ => nh - (intOf i).toNat)
  case atStart => exact ⟨0, Nat.zero_le _, rfl, by rw [HS0.out], HB2⟩
  case round =>
    clear HB2 HS0
    obtain ⟨k, hk, rfl, rfl, HB⟩ := hrel
    have HBW : Hid (Below w.heap.size w wr) := HB1.out.trans (HB.out.mono HB1.out.size)
    by_cases hlt : k < nh
    · have hkv : k < hv.length := by have := HNH.out; omega
      have hV := HHV.out.later HBW.out
      have hho := hV.adr (by omega)
      obtain ⟨v2, g2, go, gb, gf, gn, gc, hv2, hy⟩ := hV.at' k hkv
      subst hv2
      have hC := HCH.out.later HBW.out
      have hcl := checkLabelR ao go b off n c gb gf gn gc ls hv[k] wr hC.ln hC.mn hC.strs hy
      have hgo := fun h => badS_go (ls := ls) (ps := ps) (c := E) hkv h
      have hstay := fun h => badS_stay (ls := ls) (ps := ps) (c := E) hkv h
      obtain ⟨F, hF⟩ : ∃ F, F = badS ls ps hv E k := ⟨_, rfl⟩
      rw [← hF] at hgo hstay ⊢
      clear hF hV hy hC
      subst hho
      by_cases hz : F = 0
      · obtain ⟨e1, e2⟩ := hgo hz
        have hz0 : checkF ls ps = 0 := (chkB_parts (HE.out.symm.trans e1)).1
        rw [chk_is hz0] at e2
        have HF : Hid (badS ls ps hv E (k + 1) = chk1 ls hv[k]) := e2
        obtain ⟨G, hG⟩ : ∃ G, G = chk1 ls hv[k] := ⟨_, rfl⟩
        rw [← hG] at hcl HF
        subst hz
        clear hgo hstay e1 e2 hz0 hG
        go_wp2_with fail
        refine hcl.mono ?_
        rintro e w3 ⟨rfl, hb3⟩
        have HB3 : Hid (Below w1.heap.size w1 w3) := HB.out.trans (hb3.mono HB.out.size)
        clear hb3 hcl
        go_wp2
        go_roundw
        case rel => exact ⟨k + 1, by omega, by go_num, by rw [HF.out], HB3⟩
        case measure => simp [intOf]; omega
      · have HF : Hid (badS ls ps hv E (k + 1) = F) := hstay hz
        have bn : (F == 0) = false := by simp [hz]
        have bb : (F != 0) = true := by simp [hz]
        clear hgo hstay hcl
        go_wp2
        go_roundw
        case rel => exact ⟨k + 1, by omega, by go_num, by rw [HF.out], HB⟩
        case measure => simp [intOf]; omega
    · have HF : Hid (badS ls ps hv E k = brkE ls ps hv l) := by
        have e1 : k = hv.length := by have := HNH.out; omega
        show _ = _
        rw [e1, HE.out, HNH.out, badS_all]
      rw [HF.out]
      clear HF
      have hdone : decide ((k : Int) < (nh : Int)) = false := by simp; omega
      rcases HRES.out with ⟨hne, hx0, he0⟩ | ⟨hz, he0, hxm, xb, xs, hxn, hxs, hbk⟩
      · subst hx0
        subst he0
        obtain ⟨G, hG⟩ : ∃ G, G = brkE ls ps hv l := ⟨_, rfl⟩
        rw [← hG] at hne ⊢
        have bn : (G != 0) = true := by simp [hne]
        have be : (G == 0) = false := by simp [hne]
        clear hG HRES hne
        go_wp2_with fail
        refine (solved_any _ (HT.out.later HBW.out)).mono ?_
        rintro e w3 ⟨rfl, hb3⟩
        have HB3 : Hid (Below w.heap.size w w3) := HBW.out.trans (hb3.mono HBW.out.size)
        clear hb3
        go_wp2_with fail
        refine (solved_any _ (HT.out.later HB3.out)).mono ?_
        rintro e w4 ⟨rfl, hb4⟩
        have HB4 : Hid (Below w.heap.size w w4) := HB3.out.trans (hb4.mono HB3.out.size)
        clear hb4
        go_wp2
        go_ret
        exact ⟨rfl, HB4.out⟩
      · rw [hz]
        subst he0
        have hz' : chkB ls ps (nh : Int) l = 0 ∧ hvE ls ps hv = 0 := by
          unfold brkE at hz
          rw [← HNH.out] at hz
          split at hz
          · rename_i h1; exact ⟨h1, hz⟩
          · rename_i h1; exact absurd hz h1
        obtain ⟨hF, hn4, hl4, hone⟩ := chkB_parts hz'.1
        obtain ⟨q1, q2, q3, q4⟩ := right_of hF
        obtain ⟨bk, hbk1, hbk2⟩ := hbk.ex
        have HXS : Hid (Ints w1 xo xb 0 xs) := hxs
        have HXN : Hid (xn = xs.length) := hxn
        have HXE : Hid (xs = brkX bk l.length) := hbk2
        have HBR : Hid (∀ W, Below w.heap.size w W → Calls Tryz.prog 17 #[.slice po m d, .slice ho nh hc, .slice lo ln lc] W fun e w' => ∃ v, e = .returned v ∧ IntSt W w' v (brkX bk l.length)) := fun W hW =>
          brokenR po ho lo b' off' m d hb hoff nh hc lb loff ln lc ls ps hv l bk W (pairs_sw (HCH.out.later hW) hF) q3 q1 q4 (HHV.out.later hW) HNH.out (fun y hy => lbok_of (hvE_zero.1 hz'.2 y hy)) (HBD.out.later hW) HLN.out (by have := HLN.out; omega) (fun x hx => bdok_of (by rw [← HNH.out]; exact hone x hx)) hbk1
        clear hz hz' hF hn4 hl4 hone q1 q2 q3 q4 hbk hbk1 hbk2 hxs hxn HRES
        go_wp2_with fail
        refine (solved_any _ (HT.out.later HBW.out)).mono ?_
        rintro e w3 ⟨rfl, hb3⟩
        have HB3 : Hid (Below w1.heap.size w1 w3) := HB.out.trans (hb3.mono HB.out.size)
        have HBW3 : Hid (Below w.heap.size w w3) := HB1.out.trans (HB3.out.mono HB1.out.size)
        clear hb3
        go_wp2_with fail
        refine (HBR.out _ HBW3.out).mono ?_
        rintro e w4 ⟨v4, rfl, hst⟩
        obtain ⟨zo, zb, zc, hv4, hzi⟩ := ints_own hst.2
        subst hv4
        have HB4 : Hid (Below w1.heap.size w1 w4) := HB3.out.trans (hst.1.mono HB3.out.size)
        have HBW4 : Hid (Below w.heap.size w w4) := HB1.out.trans (HB4.out.mono HB1.out.size)
        have hxl : xs.length ≤ 1000 := by have := HXN.out; omega
        have heq := eqInts xo zo xb 0 zb 0 xn (brkX bk l.length).length xc zc xs (brkX bk l.length) w4 HXN.out rfl (by unfold maxLen; omega) (by rw [← HXE.out]; unfold maxLen; omega) (HXS.out.later HB4.out) hzi
        have hde : decide (xs = brkX bk l.length) = true := decide_eq_true HXE.out
        rw [hde] at heq
        obtain ⟨zn, hzn⟩ : ∃ zn, zn = (brkX bk l.length).length := ⟨_, rfl⟩
        rw [← hzn] at heq ⊢
        clear hst hzi hde hzn
        go_wp2_with fail
        refine heq.mono ?_
        rintro e w5 ⟨rfl, q5, hw5⟩
        have HBW5 : Hid (Below w.heap.size w w5) := by
          show Below _ _ _
          rw [hw5]
          exact ⟨HBW4.out.os, HBW4.out.tape, HBW4.out.output, HBW4.out.size, HBW4.out.block⟩
        clear hw5
        go_wp2
        go_ret
        exact ⟨rfl, HBW5.out⟩
end Go.Proofs.YtpbknhhjfhpkmaaGreatDoor
