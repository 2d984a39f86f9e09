/- The law ViewSeen, walked. -/
import Derived.Test.YtfhpmnghakhlkaaDoorViewed
import Derived.Test.YtfhpmnghakhlkaaDoorRelC
import Derived.Test.YtfhpmnghakhlkaaDoorBegC
import Derived.Test.YtfhpmnghakhlkaaDoorRefG
namespace Go.Proofs.YtfhpmnghakhlkaaDoor
open Go.RowKit

def badW (ls : List ByteArray) (ps : List (ByteArray × ByteArray)) (who : ByteArray) : Int := if checkF ls ps = 0 then (if Act.has ls who = true then 0 else 5) else checkF ls ps
def bad3 (ls : List ByteArray) (ps : List (ByteArray × ByteArray)) (l : List Evt) : Int := if 3000 < l.length then 2 else checkF ls ps
def badX (ls : List ByteArray) (ps : List (ByteArray × ByteArray)) (who : ByteArray) (l : List Evt) : Int := if 3000 < l.length then 2 else badW ls ps who
theorem seesE_nil (ls : List ByteArray) (ps : List (ByteArray × ByteArray)) (who : ByteArray) : seesE ls ps who [] = badW ls ps who := by
  unfold seesE badW checkL
  by_cases h : checkF ls ps = 0
  · rw [if_pos h, if_pos h]; rfl
  · rw [if_neg h, if_neg h]
theorem badX_step (ls : List ByteArray) (ps : List (ByteArray × ByteArray)) (who : ByteArray) (l : List Evt) : badX ls ps who l = if bad3 ls ps l = 0 then (if Act.has ls who = true then 0 else 5) else bad3 ls ps l := by
  unfold badX bad3 badW
  by_cases h : 3000 < l.length
  · rw [if_pos h, if_pos h]; rfl
  · rw [if_neg h, if_neg h]
theorem seenE_bad {ls : List ByteArray} {ps : List (ByteArray × ByteArray)} {who : ByteArray} {l : List Evt} (h : badX ls ps who l ≠ 0) : seenE ls ps who l = badX ls ps who l ∧ seenV ls ps who l = [] := by
  have e : seenE ls ps who l = badX ls ps who l := by
    unfold seenE
    unfold badX at h ⊢
    split
    · rfl
    · rename_i h3
      rw [if_neg h3] at h
      rw [seesE_nil, if_neg h]
  exact ⟨e, by unfold seenV; rw [e, if_neg h]⟩
theorem seenE_good {ls : List ByteArray} {ps : List (ByteArray × ByteArray)} {who : ByteArray} {l : List Evt} (h : badX ls ps who l = 0) : l.length ≤ 3000 ∧ checkF ls ps = 0 ∧ Act.has ls who = true ∧ seenE ls ps who l = sawE ls ps who l := by
  unfold badX at h
  split at h
  · cases h
  · rename_i h3
    have h' := h
    unfold badW at h
    split at h
    · rename_i h0
      split at h
      · rename_i hw
        refine ⟨by omega, h0, hw, ?_⟩
        unfold seenE
        rw [if_neg h3, seesE_nil, if_pos h']
      · cases h
    · rename_i h0; exact absurd h h0
theorem sees_chk {ls : List ByteArray} {ps : List (ByteArray × ByteArray)} {who : ByteArray} (h0 : checkF ls ps = 0) (hw : Act.has ls who = true) (x : List Pol) : seesE ls ps who x = chk1 ls x := by
  have e : checkL ls ps x = chk1 ls x := by unfold checkL chk1; rw [if_pos h0]
  unfold seesE
  rw [e]
  by_cases h : chk1 ls x = 0
  · rw [if_pos h, if_pos hw, h]
  · rw [if_neg h]
theorem sees_has {ls : List ByteArray} {ps : List (ByteArray × ByteArray)} {who : ByteArray} {x : List Pol} (h : seesE ls ps who x = 0) : Act.has (Lab.readsF ls ps x) who = seesV ls ps who x := by
  obtain ⟨h1, hw⟩ := seesE_zero h
  obtain ⟨h0, _, g1, _⟩ := checkL_ok h1
  obtain ⟨_, _, hr, _⟩ := right_of h0
  have k1 : Act.has (Lab.readsF ls ps x) who = true ↔ Lab.reads ps x who := by rw [Act.has_iff, Lab.readsF_mem hr g1]; exact ⟨fun h => h.2, fun h => ⟨hw, h⟩⟩
  have k2 := sees_iff h
  cases hv : seesV ls ps who x with
  | true => exact k1.2 (k2.1 hv)
  | false =>
    cases hq : Act.has (Lab.readsF ls ps x) who with
    | false => rfl
    | true => rw [k2.2 (k1.1 hq)] at hv; cases hv

set_option maxRecDepth 100000 in
set_option maxHeartbeats 8000000 in
theorem law_seen (ao po lo mo : Option Addr) (b off b' off' n m c d lb loff ln lc mb moff mn mc : Nat) (mx : Int) (who : ByteArray) (ls : List ByteArray) (ps : List (ByteArray × ByteArray)) (vs us : List Ev3) (l : List Evt) (w : World) (hc : Chiefs w ao po b off b' off' n m c ls ps)
    (hpz : ∀ p ∈ ps, p.1.size ≤ maxLen ∧ p.2.size ≤ maxLen) (hmx : w.cell? ⟨0, 0, none⟩ = some (.int .i64 mx))
    (hv : EvV w lo lb loff vs) (hl : EvL w vs l) (hn : ln = l.length) (h48 : ln * 48 ≤ 140737488351232) (hu : EvV w mo mb moff us) (hun : mn = us.length) (hmc : mn ≤ mc) :
    Calls Tryd.prog 3 #[.slice ao n c, .slice po m d, .string who, .slice lo ln lc, .slice mo mn mc] w fun e w' => e = .returned (.bool true) ∧ Below w.heap.size w w' := by
  have HC : Hid (Chiefs w ao po b off b' off' n m c ls ps) := hc
  have HPZ : Hid (∀ p ∈ ps, p.1.size ≤ maxLen ∧ p.2.size ≤ maxLen) := hpz
  have HMX : Hid (∀ W, Below w.heap.size w W → W.cell? ⟨0, 0, none⟩ = some (.int .i64 mx)) := fun W hW => (hW.cell (p := ⟨0, 0, none⟩) (World.block_lt_of_cell? w _ hmx)).trans hmx
  have HV : Hid (EvV w lo lb loff vs) := hv
  have HL : Hid (EvL w vs l) := hl
  have HN : Hid (ln = l.length) := hn
  have HNV : Hid (ln = vs.length) := by have := hl.ln; show _ = _; omega
  have HU : Hid (EvV w mo mb moff us) := hu
  have HUN : Hid (mn = us.length) := hun
  have hcall := seenC ao po lo b off b' off' n m c d lb loff ln lc ls ps who vs l w hc hv hl hn (by unfold maxLen; omega)
  clear hc hpz hmx hv hl hn hu hun
  go_enter Tryd.func3, Tryd.ntmps3
  go_wp2_with fail
  refine hcall.mono ?_
  rintro e w1 ⟨v1, rfl, hst1⟩
  obtain ⟨e1, he1⟩ : ∃ e1, e1 = seenE ls ps who l := ⟨_, rfl⟩
  rw [← he1]
  have HE1 : Hid (e1 = seenE ls ps who l) := he1
  have HS1 : Hid (EvSt w w1 v1 (seenV ls ps who l)) := hst1
  clear he1 hst1 hcall
  obtain ⟨so, sc, hsv⟩ := slice_of HS1.out.own
  subst hsv
  obtain ⟨sn, hsn⟩ : ∃ sn, sn = (seenV ls ps who l).length := ⟨_, rfl⟩
  have HSN : Hid (sn = (seenV ls ps who l).length) := hsn
  rw [← hsn]
  rw [← hsn] at HS1
  clear hsn
  have hcall := releasedC lo lb loff ln lc vs l w1 (HV.out.later HS1.out.bel) (HL.out.later HS1.out.bel) HN.out h48
  go_wp2_with fail
  refine hcall.mono ?_
  rintro e w2 ⟨r1, r2, rfl, hst2⟩
  have HS2 : Hid (TwoSt w w2 r1 r2 (relF l) (othF l)) := ⟨hst2.a.wide HS1.out.bel, hst2.b.wide HS1.out.bel, hst2.ap⟩
  have HT2 : Hid (EvSt w w2 (.slice so sn sc) (seenV ls ps who l)) := HS1.out.later hst2.a.bel
  clear hst2 hcall HS1
  obtain ⟨ro, rc, hrv⟩ := slice_of HS2.out.a.own
  obtain ⟨qo, qc, hqv⟩ := slice_of HS2.out.b.own
  subst hrv hqv
  obtain ⟨rn, hrn⟩ : ∃ rn, rn = (relF l).length := ⟨_, rfl⟩
  obtain ⟨qn, hqn⟩ : ∃ qn, qn = (othF l).length := ⟨_, rfl⟩
  have HRN : Hid (rn = (relF l).length) := hrn
  have HQN : Hid (qn = (othF l).length) := hqn
  rw [← hrn, ← hqn] at HS2
  rw [← hrn, ← hqn]
  clear hrn hqn
  go_upto_region 3 with fail
  go_cut [60] (fun s60 wc => s60 = .bool false ∧ Hid (Below w2.heap.size w2 wc))
  case first =>
    go_wp2_with fail
    refine (viewed_any _).mono ?_
    rintro e w3 ⟨rfl, hb3⟩
    have HB3 : Hid (Below w2.heap.size w2 w3) := hb3
    have hbw : Below w.heap.size w w3 := HT2.out.bel.trans (hb3.mono HT2.out.bel.size)
    have hbeg := beginsC lo mo lb loff mb moff ln mn lc mc vs us w3 HNV.out HUN.out (by unfold maxLen; omega) hmc (HV.out.later hbw) (HU.out.later hbw)
    by_cases hle : ln ≤ mn
    · have hbar := fun W (hW : Below w3.heap.size w3 W) => bareLC lo mo lb loff mb moff ln ln lc mc vs (us.take ln) W HNV.out (by rw [List.length_take]; have := HUN.out; omega) (by unfold maxLen; omega) (by unfold maxLen; omega) ((HV.out.later hbw).later hW) (((HU.out.later hbw).later hW).take ln)
      obtain ⟨t, ht⟩ : ∃ t, t = eqF sameF vs (us.take ln) := ⟨_, rfl⟩
      have hE : (decide (ln ≤ mn) && eqF sameF vs (us.take ln)) = t := by rw [← ht]; simp [hle]
      rw [hE] at hbeg
      simp only [← ht] at hbar
      have HBAR : Hid (∀ W, Below w3.heap.size w3 W → Calls Tryd.prog 9 #[.slice lo ln lc, .slice mo ln mc] W fun e w' => e = .returned (.bool t) ∧ Below W.heap.size W w') := hbar
      have d1 : decide ((ln : Int) ≤ (mn : Int)) = true := by simp; omega
      have d2 : decide (ln ≤ mn) = true := by simp; omega
      have d3 : min (ln : Int) (mn : Int) = (ln : Int) := by omega
      have d4 : min ln mn = ln := by omega
      clear hb3 hbw ht hE hbar
      go_wp2_with fail
      refine hbeg.mono ?_
      rintro e w4 ⟨rfl, hb4⟩
      have hcl := HBAR.out w4 hb4
      have HB4 : Hid (Below w2.heap.size w2 w4) := HB3.out.trans (hb4.mono HB3.out.size)
      clear hb4 hbeg
      go_wp2_with fail
      refine hcl.mono ?_
      rintro e w5 ⟨rfl, hb5⟩
      have HB5 : Hid (Below w2.heap.size w2 w5) := HB4.out.trans (hb5.mono HB4.out.size)
      clear hb5 hcl
      cases t
      · go_wp2
        go_meet
        exact ⟨rfl, HB5⟩
      · go_wp2
        go_meet
        exact ⟨rfl, HB5⟩
    · have hE : (decide (ln ≤ mn) && eqF sameF vs (us.take ln)) = false := by simp [hle]
      rw [hE] at hbeg
      have d1 : decide ((ln : Int) ≤ (mn : Int)) = false := by simp; omega
      have d2 : decide (ln ≤ mn) = false := by simp; omega
      clear hb3 hbw hE
      go_wp2_with fail
      refine hbeg.mono ?_
      rintro e w4 ⟨rfl, hb4⟩
      have HB4 : Hid (Below w2.heap.size w2 w4) := HB3.out.trans (hb4.mono HB3.out.size)
      clear hb4 hbeg
      go_wp2
      go_meet
      exact ⟨rfl, HB4⟩
  case rest =>
    obtain ⟨rfl, HB3⟩ := hcut
    have HS3 : Hid (TwoSt w wc (.slice ro rn rc) (.slice qo qn qc) (relF l) (othF l)) := HS2.out.later HB3.out
    have HT3 : Hid (EvSt w wc (.slice so sn sc) (seenV ls ps who l)) := HT2.out.later HB3.out
    clear HS2 HT2 HB3
    go_wp2
    go_loopw [15, 16, 63] (fun v1 v2 i wr => ∃ k : Nat, k ≤ ln ∧ i = .int .i64 k ∧ Hid (TwoSt wc wr v1 v2 (relF (l.take k)) (othF (l.take k)))) (fun _ _ i _ => ln - (intOf i).toNat)
    case atStart => exact ⟨0, Nat.zero_le _, rfl, TwoSt.nil _⟩
    case round =>
      obtain ⟨k, hk, rfl, HS⟩ := hrel
      by_cases hlt : k < ln
      · have hkl : k < l.length := by have := HN.out; omega
        have hkv : k < vs.length := by have := HNV.out; omega
        have HBR : Hid (Below w.heap.size w wr) := HT3.out.bel.trans (HS.out.a.bel.mono HT3.out.bel.size)
        have hV := HV.out.later HBR.out
        have hL := HL.out.later HBR.out
        have hao := hV.adr (by omega)
        have f0 := hV.c0 k hkv
        have f1 := hV.c1 k hkv
        have f2 := hV.c2 k hkv
        obtain ⟨q0, q1, q2⟩ := hL.at' k hkv hkl
        have hs1 := fun h => relF_step hkl h
        have hs2 := fun h => othF_step hkl h
        have r1 : (relF (l.take k)).length ≤ k := Nat.le_trans (relF_len _) (by rw [List.length_take]; omega)
        have r2 : (othF (l.take k)).length ≤ k := Nat.le_trans (othF_len _) (by rw [List.length_take]; omega)
        rw [q0] at f0
        rw [q1] at f1
        obtain ⟨s, hs⟩ : ∃ s, s = l[k].1 := ⟨_, rfl⟩
        obtain ⟨i, hi⟩ : ∃ i, i = l[k].2.1 := ⟨_, rfl⟩
        rw [← hs] at f0 hs1 hs2
        rw [← hi] at f1 hs1 hs2
        obtain ⟨go, gb, goff, gn, gc, hgv, _⟩ := q2
        rw [hgv] at f2
        obtain ⟨L1, hL1⟩ : ∃ L, L = relF (l.take k) := ⟨_, rfl⟩
        obtain ⟨L2, hL2⟩ : ∃ L, L = othF (l.take k) := ⟨_, rfl⟩
        rw [← hL1] at HS hs1 hs2 r1
        rw [← hL2] at HS hs1 hs2 r2
        obtain ⟨o1, c1, hv1⟩ := slice_of HS.out.a.own
        obtain ⟨o2, c2, hv2⟩ := slice_of HS.out.b.own
        subst hv1 hv2
        obtain ⟨wy, hwy⟩ : ∃ wy, wy = (wr.alloc (.cells #[.string s, .int .i64 i, .slice go gn gc] 35)).alloc (.cells #[.string s, .int .i64 i, .slice none 0 0] 35) := ⟨_, rfl⟩
        have hby : Below wr.heap.size wr wy := by rw [hwy]; exact ((Below.refl _ _).alloc (Nat.le_refl _) _).alloc (by simp) _
        have HSY : Hid (TwoSt wc wy (.slice o1 L1.length c1) (.slice o2 L2.length c2) L1 L2) := HS.out.later hby
        have kx : wy.heap[wr.heap.size]? = some (.cells #[.string s, .int .i64 i, .slice go gn gc] 35 (0, 0)) := by rw [hwy]; exact heap_past_alloc (heap_at_alloc _ _ _ rfl)
        have ky : wy.heap[wr.heap.size + 1]? = some (.cells #[.string s, .int .i64 i, .slice none 0 0] 35 (0, 0)) := by rw [hwy]; exact heap_at_alloc _ _ _ (by simp)
        have x0 : wy.cell? ⟨wr.heap.size, 0, none⟩ = some (.string s) := by simp [World.cell?, kx]
        have y0 : wy.cell? ⟨wr.heap.size + 1, 0, none⟩ = some (.string s) := by simp [World.cell?, ky]
        have y1 : wy.cell? ⟨wr.heap.size + 1, 1, none⟩ = some (.int .i64 i) := by simp [World.cell?, ky]
        have y2 : wy.cell? ⟨wr.heap.size + 1, 2, none⟩ = some (.slice none 0 0) := by simp [World.cell?, ky]
        have lx := lt_of_block kx
        have ly := lt_of_block ky
        have HWY : Hid (wy = (wr.alloc (.cells #[.string s, .int .i64 i, .slice go gn gc] 35)).alloc (.cells #[.string s, .int .i64 i, .slice none 0 0] 35)) := hwy
        have hbig : wc.heap.size ≤ wy.heap.size := HSY.out.a.bel.size
        clear hV hL q0 q1 hs hi hgv hL1 hL2 HS hwy hby kx ky
        obtain ⟨i0, hi, hz0, hz1, hz2⟩ := info_parts Tryd.infoEv
        subst hao
        go_upto_region 10 with fail
        rw [← HWY.out]
        clear HWY
        by_cases he : s = ⟨#[]⟩
        · obtain ⟨g1, g2⟩ := hs1 he
          have HG1 : Hid (relF (l.take (k + 1)) = L1 ++ [(s, i)]) := g1
          have HG2 : Hid (othF (l.take (k + 1)) = L2) := g2
          clear hs1 hs2 g1 g2
          have HO : Hid (wy.ownsRow wc.heap.size 35 3 (.slice o1 L1.length c1) L1.length (evC (bareV L1))) := HSY.out.a.own
          subst he
          go_wp2_with (at_builtin; refine wpList_append_lies _ rfl _ _ 24 rfl wc.heap.size 35 i0 (.agg #[.string ⟨#[]⟩, .int .i64 0, .slice none 0 0]) 3 48 Tryd.underlying24 hi hz0 hz1 hz2 rfl (by decide) _ _ _ rfl (World.ownsRow.alloc HO.out _) ⟨wy.heap.size, 0, none⟩ 1 1 [.string ⟨#[]⟩, .int .i64 i, .slice none 0 0] rfl rfl ?c1 ?c2 (by decide) ?c3 ?c4 ?c5 _ rfl ?_)
          case c1 => exact three_at _ _ _ _ _
          case c2 => intro u hu; simp at hu; rcases hu with rfl | rfl | rfl <;> rfl
          case c3 => unfold maxLen; omega
          case c4 => omega
          case c5 => simp; omega
          · intro g cap w5 hown5 hgrow5 hat5 _
            have HNX : Hid (TwoSt wc w5 (.slice (some ⟨g, 0, none⟩) (L1.length + 1) cap) (.slice o2 L2.length c2) (L1 ++ [(⟨#[]⟩, i)]) L2) := HSY.out.step hown5 hgrow5 hat5 (by simp)
            clear hown5 hgrow5 hat5
            go_wp2
            go_roundw
            case rel => exact ⟨k + 1, by omega, by go_num, by rw [HG1.out, HG2.out]; exact HNX⟩
            case measure => simp [intOf]; omega
        · obtain ⟨g1, g2⟩ := hs2 he
          have HG1 : Hid (relF (l.take (k + 1)) = L1) := g1
          have HG2 : Hid (othF (l.take (k + 1)) = L2 ++ [(s, i)]) := g2
          have be := empty_ne he
          have HST : Hid (TwoSt wc wy (.slice o2 L2.length c2) (.slice o1 L1.length c1) L2 L1) := HSY.out.turn
          have HO : Hid (wy.ownsRow wc.heap.size 35 3 (.slice o2 L2.length c2) L2.length (evC (bareV L2))) := HST.out.a.own
          clear hs1 hs2 g1 g2 he
          go_wp2_with (at_builtin; refine wpList_append_lies _ rfl _ _ 24 rfl wc.heap.size 35 i0 (.agg #[.string ⟨#[]⟩, .int .i64 0, .slice none 0 0]) 3 48 Tryd.underlying24 hi hz0 hz1 hz2 rfl (by decide) _ _ _ rfl (World.ownsRow.alloc HO.out _) ⟨wy.heap.size, 0, none⟩ 1 1 [.string s, .int .i64 i, .slice none 0 0] rfl rfl ?c1 ?c2 (by decide) ?c3 ?c4 ?c5 _ rfl ?_)
          case c1 => exact three_at _ _ _ _ _
          case c2 => intro u hu; simp at hu; rcases hu with rfl | rfl | rfl <;> rfl
          case c3 => unfold maxLen; omega
          case c4 => omega
          case c5 => simp; omega
          · intro g cap w5 hown5 hgrow5 hat5 _
            have HNX : Hid (TwoSt wc w5 (.slice o1 L1.length c1) (.slice (some ⟨g, 0, none⟩) (L2.length + 1) cap) L1 (L2 ++ [(s, i)])) := (HST.out.step hown5 hgrow5 hat5 (by simp)).turn
            clear hown5 hgrow5 hat5
            go_wp2
            go_roundw
            case rel => exact ⟨k + 1, by omega, by go_num, by rw [HG1.out, HG2.out]; exact HNX⟩
            case measure => simp [intOf]; omega
      · have HSE : Hid (TwoSt wc wr u15 u16 (relF l) (othF l)) := by
          have h := HS.out
          rw [List.take_of_length_le (by have := HN.out; omega)] at h
          exact h
        clear HS
        have HB4 : Hid (Below wc.heap.size wc wr) := HSE.out.a.bel
        have HS4 : Hid (TwoSt w wr (.slice ro rn rc) (.slice qo qn qc) (relF l) (othF l)) := HS3.out.later HB4.out
        have HT4 : Hid (EvSt w wr (.slice so sn sc) (seenV ls ps who l)) := HT3.out.later HB4.out
        obtain ⟨xo, xb, xc, hxv, _, _, hxr⟩ := HSE.out.a.row
        obtain ⟨zo, zb, zc, hzv, _, _, hzr⟩ := HSE.out.b.row
        obtain ⟨ro', rb, rc', hrv, _, _, hrr⟩ := HS4.out.a.row
        obtain ⟨qo', qb, qc', hqv, _, _, hqr⟩ := HS4.out.b.row
        rw [← HRN.out] at hxv hrv
        rw [← HQN.out] at hzv hqv
        simp only [Value.slice.injEq] at hrv hqv
        obtain ⟨e1', _, e2'⟩ := hrv
        obtain ⟨e3', _, e4'⟩ := hqv
        subst e1' e2' e3' e4' hxv hzv
        have hrl : rn ≤ ln := by rw [HRN.out, HN.out]; exact relF_len l
        have hql : qn ≤ ln := by rw [HQN.out, HN.out]; exact othF_len l
        have hq1 := evSame ro xo rb 0 xb 0 rn rn rc xc (relF l) (relF l) wr HRN.out HRN.out (by unfold maxLen; omega) (by unfold maxLen; omega) hrr hxr
        rw [decide_eq_true rfl] at hq1
        have HQ2 : Hid (∀ W, Below wr.heap.size wr W → Calls Tryd.prog 10 #[.slice qo qn qc, .slice zo qn zc, .func (.func 11) #[] #[]] W fun e w' => e = .returned (.bool true) ∧ Below W.heap.size W w') := fun W hW => by
          have h := evSame qo zo qb 0 zb 0 qn qn qc zc (othF l) (othF l) W HQN.out HQN.out (by unfold maxLen; omega) (by unfold maxLen; omega) (hqr.later hW) (hzr.later hW)
          rw [decide_eq_true rfl] at h
          exact h
        clear hxr hzr hrr hqr HS3 HT3 hrl hql
        go_wp2_with fail
        refine hq1.mono ?_
        rintro e w5 ⟨rfl, hb5⟩
        have hq2 := HQ2.out w5 hb5
        have HB5 : Hid (Below wr.heap.size wr w5) := hb5
        clear hb5 hq1 HQ2
        go_wp2_with fail
        refine hq2.mono ?_
        rintro e w6 ⟨rfl, hb6⟩
        have HT6 : Hid (EvSt w w6 (.slice so sn sc) (seenV ls ps who l)) := HT4.out.later (HB5.out.trans (hb6.mono HB5.out.size))
        clear hb6 hq2 HS4 HT4 HB5 HB4 HSE
        have HT7 : Hid (EvSt w w6 (.slice so sn sc) (seenV ls ps who l)) := HT6.out
        have HC6 : Hid (Chiefs w6 ao po b off b' off' n m c ls ps) := HC.out.later HT6.out.bel
        obtain ⟨B1, hB1⟩ : ∃ B, B = bad3 ls ps l := ⟨_, rfl⟩
        have HBD1 : Hid (B1 = bad3 ls ps l) := hB1
        clear hB1
        go_upto_if 96 with fail
        go_cut [20] (fun s20 wc => s20 = .int .i64 B1 ∧ Hid (Below w6.heap.size w6 wc))
        case first =>
          by_cases h3 : 3000 < ln
          · have HB2 : Hid (B1 = 2) := by show _ = _; rw [HBD1.out]; unfold bad3; rw [if_pos (by have := HN.out; omega)]
            have d3 : decide ((3000 : Int) < (ln : Int)) = true := by simp; omega
            have d4 : decide (3000 < ln) = true := by simp; omega
            go_wp2
            go_meet
            exact ⟨by rw [HB2.out], Below.refl _ _⟩
          · have HB2 : Hid (checkF ls ps = B1) := by show _ = _; rw [HBD1.out]; unfold bad3; rw [if_neg (by have := HN.out; omega)]
            have d3 : decide ((3000 : Int) < (ln : Int)) = false := by simp; omega
            have d4 : decide (3000 < ln) = false := by simp; omega
            have hcr := checkR_any ao po b off b' off' n m c d mx ls ps w6 HC6.out HPZ.out (HMX.out w6 HT6.out.bel)
            rw [HB2.out] at hcr
            go_wp2_with fail
            refine hcr.mono ?_
            rintro e w7 ⟨rfl, hb7⟩
            have HB7 : Hid (Below w6.heap.size w6 w7) := hb7
            clear hb7 hcr
            go_wp2
            go_meet
            exact ⟨rfl, HB7⟩
        case rest =>
          obtain ⟨rfl, HB7⟩ := hcut
          have HT8 : Hid (EvSt w wc (.slice so sn sc) (seenV ls ps who l)) := HT6.out.later HB7.out
          have HB8 : Hid (Below w.heap.size w wc) := HT8.out.bel
          have HC8 : Hid (Chiefs wc ao po b off b' off' n m c ls ps) := HC6.out.later HB7.out
          clear HT6 HT7 HC6 HB7
          by_cases hX0 : B1 = 0
          · subst hX0
            have hct := contains_of HC8 who
            cases hh : Act.has ls who with
            | false =>
              rw [hh] at hct
              go_wp2_with fail
              refine hct.mono ?_
              rintro e w9 ⟨rfl, hw9⟩
              have hw9' := hw9.symm
              subst hw9'
              clear hct
              have hX0 : (5 : Int) ≠ 0 := by decide
              go_wp2
              have HBE : Hid (badX ls ps who l = 5) := by show _ = _; rw [badX_step, ← HBD1.out]; rw [if_pos rfl, if_neg (by rw [hh]; decide)]
              obtain ⟨hse, hsv⟩ := seenE_bad (ls := ls) (ps := ps) (who := who) (l := l) (by rw [HBE.out]; exact hX0)
              have he1 : 5 = e1 := by rw [HE1.out, hse, HBE.out]
              have hs0 : sn = 0 := by rw [HSN.out, hsv]; rfl
              have bq : ((5 : Int) == 5) = true := by simp
              have bn : ((5 : Int) == 0) = false := by decide
              have bb : ((5 : Int) != 0) = true := by decide
              clear hse hsv HE1 HSN HT8 HBE
              subst he1 hs0
              go_loopw [20, 21, 110] (fun s20 v i wx => s20 = .int .i64 5 ∧ v = .slice none 0 0 ∧ i = .int .i64 0 ∧ wx = wc) (fun _ _ _ _ => 0)
              case atStart => exact ⟨rfl, rfl, rfl, rfl⟩
              case round =>
                obtain ⟨h1, h2, h3, h4⟩ := hrel
                subst h1 h2 h3 h4
                by_cases h0l : 0 < ln
                · have hkv : 0 < vs.length := by have := HNV.out; omega
                  have hV := HV.out.later HB8.out
                  have hao := hV.adr (by omega)
                  have f0 := hV.c0 0 hkv
                  have f1 := hV.c1 0 hkv
                  have f2 := hV.c2 0 hkv
                  obtain ⟨go, gn, gc, hgs⟩ := hV.sl _ (List.getElem_mem hkv)
                  rw [hgs] at f2
                  simp only [Nat.zero_mul, Nat.add_zero] at f0 f1 f2
                  obtain ⟨s, hs⟩ : ∃ s, s = vs[0].1 := ⟨_, rfl⟩
                  obtain ⟨i, hi⟩ : ∃ i, i = vs[0].2.1 := ⟨_, rfl⟩
                  rw [← hs] at f0
                  rw [← hi] at f1
                  clear hV hs hi hgs
                  subst hao
                  have HBF : Hid (Below w.heap.size w (wr.alloc (.cells #[.string s, .int .i64 i, .slice go gn gc] 35))) := HB8.out.alloc HB8.out.size _
                  go_wp2
                  go_ret
                  exact ⟨rfl, HBF.out⟩
                · have hz : ln = 0 := by omega
                  subst hz
                  go_wp2
                  go_ret
                  exact ⟨rfl, HB8.out⟩
            | true =>
              rw [hh] at hct
              go_wp2_with fail
              refine hct.mono ?_
              rintro e w9 ⟨rfl, hw9⟩
              have hw9' := hw9.symm
              subst hw9'
              clear hct
              obtain ⟨hl3, hck, _, hse⟩ := seenE_good (ls := ls) (ps := ps) (who := who) (l := l) (by rw [badX_step, ← HBD1.out, if_pos rfl, if_pos hh])
              have HSE : Hid (e1 = sawE ls ps who l) := by show _ = _; rw [HE1.out, hse]
              have HCK : Hid (checkF ls ps = 0) := hck
              have HWH : Hid (Act.has ls who = true) := hh
              have hln3 : ln ≤ 3000 := by have := HN.out; omega
              have hn6 : n ≤ 6 := by have h1 := (right_of hck).1; have := HC8.out.ln; omega
              clear hl3 hck hse hh HBD1
              go_wp2
              go_loopw [20, 21, 110] (fun s20 v i wx => ∃ k : Nat, k ≤ ln ∧ s20 = .int .i64 0 ∧ i = .int .i64 k ∧ Hid (EvSt wc wx v (sawF ls ps who (l.take k))) ∧ Hid (sawE ls ps who (l.drop k) = sawE ls ps who l)) (fun _ _ i _ => ln - (intOf i).toNat)
              case atStart => exact ⟨0, Nat.zero_le _, rfl, rfl, EvSt.nil _, by show _ = _; simp⟩
              case round =>
                obtain ⟨k, hk, h20, rfl, HS, HK⟩ := hrel
                subst h20
                by_cases hlt : k < ln
                · have hkl : k < l.length := by have := HN.out; omega
                  have hkv : k < vs.length := by have := HNV.out; omega
                  have HBR : Hid (Below w.heap.size w wr) := HB8.out.trans (HS.out.bel.mono HB8.out.size)
                  have hV := HV.out.later HBR.out
                  have hL := HL.out.later HBR.out
                  have hao := hV.adr (by omega)
                  have f0 := hV.c0 k hkv
                  have f1 := hV.c1 k hkv
                  have f2 := hV.c2 k hkv
                  obtain ⟨q0, q1, q2⟩ := hL.at' k hkv hkl
                  have hst := sawF_step (ls := ls) (ps := ps) (who := who) hkl
                  have hgo := fun h => sawE_step (ls := ls) (ps := ps) (who := who) hkl h
                  have hhit := fun h => sawE_hit (ls := ls) (ps := ps) (who := who) hkl h
                  rw [q0] at f0
                  rw [q1] at f1
                  obtain ⟨s, hs⟩ : ∃ s, s = l[k].1 := ⟨_, rfl⟩
                  obtain ⟨i, hi⟩ : ∃ i, i = l[k].2.1 := ⟨_, rfl⟩
                  obtain ⟨x, hx⟩ : ∃ x, x = l[k].2.2 := ⟨_, rfl⟩
                  rw [← hs] at f0 hst
                  rw [← hi] at f1 hst
                  rw [← hx] at q2 hst hgo hhit
                  obtain ⟨go, gb, goff, gn, gc, hgv, hgl⟩ := q2
                  rw [hgv] at f2
                  obtain ⟨wy, hwy⟩ : ∃ wy, wy = wr.alloc (.cells #[.string s, .int .i64 i, .slice go gn gc] 35) := ⟨_, rfl⟩
                  have hby : Below wr.heap.size wr wy := by rw [hwy]; exact (Below.refl _ _).alloc (Nat.le_refl _) _
                  have ky : wy.heap[wr.heap.size]? = some (.cells #[.string s, .int .i64 i, .slice go gn gc] 35 (0, 0)) := by rw [hwy]; exact heap_at_alloc _ _ _ rfl
                  have hbyc : Below wc.heap.size wc wy := HS.out.bel.trans (hby.mono HS.out.bel.size)
                  have hCY := HC8.out.later hbyc
                  have hcl := checkLabelR ao go b off n c gb goff gn gc ls x wy hCY.ln hCY.mn hCY.strs (hgl.later hby)
                  have hsc := sees_chk (who := who) HCK.out HWH.out x
                  rw [← hsc] at hcl
                  have HKY : Hid (∀ W, Below wy.heap.size wy W → W.cell? ⟨wr.heap.size, 0, none⟩ = some (.string s) ∧ W.cell? ⟨wr.heap.size, 1, none⟩ = some (.int .i64 i) ∧ W.cell? ⟨wr.heap.size, 2, none⟩ = some (.slice go gn gc) ∧ wr.heap.size < W.heap.size) := fun W hW => by
                    have e := (hW.block _ (lt_of_block ky)).trans ky
                    exact ⟨by simp [World.cell?, e], by simp [World.cell?, e], by simp [World.cell?, e], lt_of_block e⟩
                  obtain ⟨y0, y1, y2, ly⟩ := HKY.out wy (Below.refl _ _)
                  have HWY : Hid (wy = wr.alloc (.cells #[.string s, .int .i64 i, .slice go gn gc] 35)) := hwy
                  have HGL : Hid (LabAt wy go gb goff gn gc x) := hgl.later hby
                  obtain ⟨L, hLL⟩ : ∃ L, L = sawF ls ps who (l.take k) := ⟨_, rfl⟩
                  have HSY : Hid (EvSt wc wy u21 L) := by rw [hLL]; exact HS.out.later hby
                  have hLn : L.length ≤ 3000 := by
                    rw [hLL]
                    have h1 := sawF_len ls ps who (l.take k)
                    have h2 := List.length_take (i := k) (l := l)
                    omega
                  rw [← hLL] at hst
                  have HCY : Hid (Chiefs wy ao po b off b' off' n m c ls ps) := hCY
                  have hse0 := fun h => sees_has (ls := ls) (ps := ps) (who := who) (x := x) h
                  have hsc0 : seesE ls ps who x = chk1 ls x := hsc
                  obtain ⟨e2, he2⟩ : ∃ e2, e2 = seesE ls ps who x := ⟨_, rfl⟩
                  rw [← he2] at hcl hgo hhit hse0 hsc0
                  obtain ⟨ov, ocap, hov⟩ := slice_of HSY.out.own
                  subst hov
                  clear hV hL q0 q1 hs hi hx hgv hgl hwy hby ky hbyc hCY hsc hLL HS he2
                  subst hao
                  go_upto_region 26 with fail
                  rw [← HWY.out]
                  clear HWY
                  by_cases h2 : e2 = 0
                  · subst h2
                    have HK' : Hid (sawE ls ps who (l.drop (k + 1)) = sawE ls ps who l) := by show _ = _; rw [← HK.out]; exact (hgo rfl).symm
                    have HSH : Hid (Act.has (Lab.readsF ls ps x) who = seesV ls ps who x) := hse0 rfl
                    have HGD : Hid (∀ W, Below wy.heap.size wy W → Good W go gb goff gn ls x) := fun W hW => (good_ofV HGL.out hsc0.symm).later hW
                    have HRD : Hid (∀ W, Below wy.heap.size wy W → Calls Tryd.prog 15 #[.slice ao n c, .slice po m d, .slice go gn gc] W fun e w' => ∃ v, e = .returned v ∧ w'.ownsRow W.heap.size 9 1 v (Lab.readsF ls ps x).length (strC (Lab.readsF ls ps x)) ∧ Below W.heap.size W w') := fun W hW =>
                      readersR ao po go b off b' off' n m c d gb goff gn gc ls ps x W HCY.out.ln hn6 (HCY.out.later hW).strs (pairs_ofV (HCY.out.later hW) HCK.out) (right_of HCK.out).2.2.1 (HGD.out W hW)
                    have hrl : (Lab.readsF ls ps x).length ≤ 6 := by
                      have h1 := List.length_filter_le (fun c => Lab.readsB ls ps x c) ls
                      have h2 := (right_of HCK.out).1
                      unfold Lab.readsF; omega
                    obtain ⟨t1, ht1⟩ : ∃ t1, t1 = seesV ls ps who x := ⟨_, rfl⟩
                    rw [← ht1] at hst HSH
                    clear hgo hhit hse0 hsc0 ht1
                    go_wp2_with fail
                    refine hcl.mono ?_
                    rintro e w3 ⟨rfl, hb3⟩
                    obtain ⟨y0', y1', y2', ly'⟩ := HKY.out w3 hb3
                    have hrd := HRD.out w3 hb3
                    have HB3' : Hid (Below wy.heap.size wy w3) := hb3
                    clear hb3 hcl y0 y1 y2 ly
                    go_wp2_with fail
                    refine hrd.mono ?_
                    rintro e w4 ⟨v4, rfl, hown4, hb4⟩
                    obtain ⟨xo4, g4, c4, hv4, _, _, ss4⟩ := strs_of_own hown4
                    subst hv4
                    have HB4' : Hid (Below wy.heap.size wy w4) := HB3'.out.trans (hb4.mono HB3'.out.size)
                    have hct4 := contains_any xo4 g4 0 (Lab.readsF ls ps x).length c4 (Lab.readsF ls ps x) who w4 rfl (by unfold maxLen; omega) ss4
                    rw [HSH.out] at hct4
                    obtain ⟨N4, hN4⟩ : ∃ N4, N4 = (Lab.readsF ls ps x).length := ⟨_, rfl⟩
                    rw [← hN4] at hct4 ⊢
                    obtain ⟨y0, y1, y2, ly⟩ := HKY.out w4 HB4'.out
                    have HS4' : Hid (EvSt wc w4 (.slice ov L.length ocap) L) := HSY.out.later HB4'.out
                    clear hown4 hb4 ss4 hrd hN4 hrl y0' y1' y2' ly' HB3' HRD
                    go_wp2_with fail
                    refine hct4.mono ?_
                    rintro e w9 ⟨rfl, hw9⟩
                    have hw9' := hw9.symm
                    subst hw9'
                    clear hct4
                    cases t1
                    · simp only [Bool.false_eq_true, if_false, List.append_nil] at hst
                      have HST : Hid (sawF ls ps who (l.take (k + 1)) = L) := hst
                      clear hst
                      go_wp2
                      go_roundw
                      case rel => exact ⟨k + 1, by omega, rfl, by go_num, by rw [HST.out]; exact HS4', HK'⟩
                      case measure => simp [intOf]; omega
                    · simp only [if_true] at hst
                      have HST : Hid (sawF ls ps who (l.take (k + 1)) = L ++ [(s, i)]) := hst
                      clear hst
                      have HO : Hid (w4.ownsRow wc.heap.size 35 3 (.slice ov L.length ocap) L.length (evC (bareV L))) := HS4'.out.own
                      have hbig : wc.heap.size ≤ w4.heap.size := HS4'.out.bel.size
                      obtain ⟨i0, hi, hz0, hz1, hz2⟩ := info_parts Tryd.infoEv
                      go_wp2_with (at_builtin; refine wpList_append_own _ rfl _ _ 24 rfl wc.heap.size 35 i0 (.agg #[.string ⟨#[]⟩, .int .i64 0, .slice none 0 0]) 3 48 Tryd.underlying24 hi hz0 hz1 hz2 rfl (by decide) _ _ _ rfl (World.ownsRow.alloc HO.out _) ⟨w4.heap.size, 0, none⟩ 1 1 [.string s, .int .i64 i, .slice none 0 0] rfl rfl ?c1 ?c2 ?c3 ?c4 ?c5 ?_)
                      case c1 => exact three_at _ _ _ _ _
                      case c2 => intro u hu; simp at hu; rcases hu with rfl | rfl | rfl <;> rfl
                      case c3 => unfold maxLen; omega
                      case c4 => omega
                      case c5 => simp; omega
                      · intro v' w5 hown5 hgrow5 _
                        have HNX : Hid (EvSt wc w5 v' (L ++ [(s, i)])) := HS4'.out.step hown5 hgrow5
                        clear hown5 hgrow5
                        go_wp2
                        go_roundw
                        case rel => exact ⟨k + 1, by omega, rfl, by go_num, by rw [HST.out]; exact HNX, HK'⟩
                        case measure => simp [intOf]; omega
                  · have HES : Hid (e2 = e1) := by show _ = _; rw [HSE.out, ← HK.out]; exact (hhit h2).symm
                    have hsn0 : sn = 0 := by rw [HSN.out]; unfold seenV; rw [← HE1.out, ← HES.out, if_neg h2]; rfl
                    have bn : (e2 == 0) = false := by simp [h2]
                    have bb : (e2 != 0) = true := by simp [h2]
                    have bq : (e2 == e2) = true := by simp
                    have heq := HES.out
                    clear hgo hhit hse0 hsc0 h2 hst HT8 HSN HE1 HSE HES
                    subst heq hsn0
                    go_wp2_with fail
                    refine hcl.mono ?_
                    rintro e w3 ⟨rfl, hb3⟩
                    have HBE : Hid (Below w.heap.size w w3) := HB8.out.trans ((HSY.out.later hb3).bel.mono HB8.out.size)
                    clear hb3 hcl
                    go_wp2
                    go_ret
                    exact ⟨rfl, HBE.out⟩
                · have HF : Hid (EvSt wc wr u21 (sawF ls ps who l)) := by
                    have h := HS.out
                    rw [List.take_of_length_le (by have := HN.out; omega)] at h
                    exact h
                  have hz : e1 = 0 := by
                    have e := HK.out
                    rw [List.drop_of_length_le (by have := HN.out; omega)] at e
                    rw [HSE.out, ← e]; rfl
                  have hsv : seenV ls ps who l = sawF ls ps who l := by unfold seenV; rw [← HE1.out, if_pos hz]
                  obtain ⟨ov, ob, ocap, hov, _, _, hor⟩ := HF.out.row
                  obtain ⟨so', sb', sc', hsv', _, _, hsr⟩ := (HT8.out.later HF.out.bel).row
                  rw [← HSN.out] at hsv'
                  simp only [Value.slice.injEq] at hsv'
                  obtain ⟨e1', _, e2'⟩ := hsv'
                  subst e1' e2' hov
                  have hsl := sawF_len ls ps who l
                  have hlen : sn = (sawF ls ps who l).length := by rw [HSN.out, hsv]
                  rw [hsv] at hsr
                  have heq := evSame so ov sb' 0 ob 0 sn (sawF ls ps who l).length sc ocap (sawF ls ps who l) (sawF ls ps who l) wr hlen rfl (by unfold maxLen; have := HN.out; omega) (by unfold maxLen; have := HN.out; omega) hsr hor
                  rw [decide_eq_true rfl] at heq
                  have HBE : Hid (Below w.heap.size w wr) := HB8.out.trans (HF.out.bel.mono HB8.out.size)
                  obtain ⟨N4, hN4⟩ : ∃ N4, N4 = (sawF ls ps who l).length := ⟨_, rfl⟩
                  rw [← hN4] at heq ⊢
                  clear hsr hor hsl hlen hsv HSE HE1 HK HS hN4
                  subst hz
                  go_wp2_with fail
                  refine heq.mono ?_
                  rintro e w3 ⟨rfl, hb3⟩
                  have HBE2 : Hid (Below w.heap.size w w3) := HBE.out.trans (hb3.mono HBE.out.size)
                  clear hb3 heq
                  go_wp2
                  go_ret
                  exact ⟨rfl, HBE2.out⟩
          · go_wp2
            have HBE : Hid (badX ls ps who l = B1) := by show _ = _; rw [badX_step, ← HBD1.out]; rw [if_neg hX0]
            obtain ⟨hse, hsv⟩ := seenE_bad (ls := ls) (ps := ps) (who := who) (l := l) (by rw [HBE.out]; exact hX0)
            have he1 : B1 = e1 := by rw [HE1.out, hse, HBE.out]
            have hs0 : sn = 0 := by rw [HSN.out, hsv]; rfl
            have bq : ((B1 : Int) == B1) = true := by simp
            have bn : ((B1 : Int) == 0) = false := by simp [hX0]
            have bb : ((B1 : Int) != 0) = true := by simp [hX0]
            clear hse hsv HE1 HSN HT8 HBE
            subst he1 hs0
            go_loopw [20, 21, 110] (fun s20 v i wx => s20 = .int .i64 B1 ∧ v = .slice none 0 0 ∧ i = .int .i64 0 ∧ wx = wc) (fun _ _ _ _ => 0)
            case atStart => exact ⟨rfl, rfl, rfl, rfl⟩
            case round =>
              obtain ⟨h1, h2, h3, h4⟩ := hrel
              subst h1 h2 h3 h4
              by_cases h0l : 0 < ln
              · have hkv : 0 < vs.length := by have := HNV.out; omega
                have hV := HV.out.later HB8.out
                have hao := hV.adr (by omega)
                have f0 := hV.c0 0 hkv
                have f1 := hV.c1 0 hkv
                have f2 := hV.c2 0 hkv
                obtain ⟨go, gn, gc, hgs⟩ := hV.sl _ (List.getElem_mem hkv)
                rw [hgs] at f2
                simp only [Nat.zero_mul, Nat.add_zero] at f0 f1 f2
                obtain ⟨s, hs⟩ : ∃ s, s = vs[0].1 := ⟨_, rfl⟩
                obtain ⟨i, hi⟩ : ∃ i, i = vs[0].2.1 := ⟨_, rfl⟩
                rw [← hs] at f0
                rw [← hi] at f1
                clear hV hs hi hgs
                subst hao
                have HBF : Hid (Below w.heap.size w (wr.alloc (.cells #[.string s, .int .i64 i, .slice go gn gc] 35))) := HB8.out.alloc HB8.out.size _
                go_wp2
                go_ret
                exact ⟨rfl, HBF.out⟩
              · have hz : ln = 0 := by omega
                subst hz
                go_wp2
                go_ret
                exact ⟨rfl, HB8.out⟩
end Go.Proofs.YtfhpmnghakhlkaaDoor
