/- The law ChiefActs, walked. -/
import Derived.Test.YtilapnfdijjobaaDoorChiefed
import Derived.Test.YtilapnfdijjobaaDoorEqS
import Derived.Test.YtilapnfdijjobaaDoorCheckR
import Derived.Test.YtilapnfdijjobaaDoorActsR
namespace Go.Proofs.YtilapnfdijjobaaDoor
open Go.RowKit

theorem filt_step2 (ls : List ByteArray) (ps : List (ByteArray × ByteArray)) (y : ByteArray) {k : Nat} (hk : k < ls.length) : (ls.take (k + 1)).filter (fun a => Act.acts ls ps a y) = (ls.take k).filter (fun a => Act.acts ls ps a y) ++ (if Act.acts ls ps ls[k] y = true then [ls[k]] else []) := by
  rw [List.take_succ_eq_append_getElem hk, List.filter_append]
  congr 1
  cases hv : Act.acts ls ps ls[k] y <;> simp [hv]

set_option maxHeartbeats 4000000 in
set_option maxRecDepth 100000 in
theorem law_acts (ao po : Option Addr) (b off b' off' n m c d : Nat) (mx : Int) (x y : ByteArray) (ls : List ByteArray) (ps : List (ByteArray × ByteArray)) (w : World) (hc : Chiefs w ao po b off b' off' n m c ls ps) (hpz : ∀ p ∈ ps, p.1.size ≤ maxLen ∧ p.2.size ≤ maxLen) (hmx : w.cell? ⟨2, 0, none⟩ = some (.int .i64 mx)) :
    Calls Tryd.prog 4 #[.slice ao n c, .slice po m d, .string x, .string y] w fun e w' => e = .returned (.bool true) ∧ Below w.heap.size w w' := by
  have HC : Hid (Chiefs w ao po b off b' off' n m c ls ps) := hc
  have HPZ : Hid (∀ p ∈ ps, p.1.size ≤ maxLen ∧ p.2.size ≤ maxLen) := hpz
  have HMX : Hid (w.cell? ⟨2, 0, none⟩ = some (.int .i64 mx)) := hmx
  have hgl : 2 < w.heap.size := World.block_lt_of_cell? w _ hmx
  clear hc hpz hmx
  go_enter Tryd.func4, Tryd.ntmps4
  go_wp2_with fail
  refine (acts_any _ _ _ _ _ _ _ _ _ _ ls ps x y _ HC.out).mono ?_
  rintro e w1 ⟨rfl, hb1⟩
  obtain ⟨va, hva⟩ : ∃ va, va = actsV ls ps x y := ⟨_, rfl⟩
  obtain ⟨ea, hea⟩ : ∃ ea, ea = actsE ls ps x y := ⟨_, rfl⟩
  rw [← hva, ← hea]
  have HVA : Hid (va = actsV ls ps x y) := hva
  have HEA : Hid (ea = actsE ls ps x y) := hea
  have HC1 : Hid (Chiefs w1 ao po b off b' off' n m c ls ps) := HC.out.later hb1
  have HB1 : Hid (Below w.heap.size w w1) := hb1
  clear hva hea hb1 HC
  go_wp2_with fail
  refine (for_any _ _ _ _ _ _ _ _ _ _ ls ps y _ HC1.out).mono ?_
  rintro e w2 ⟨vm, rfl, hom, hb2⟩
  obtain ⟨em, hem⟩ : ∃ em, em = forE ls ps y := ⟨_, rfl⟩
  rw [← hem]
  have HEM : Hid (em = forE ls ps y) := hem
  have HOM2 : Hid (w2.ownsRow w1.heap.size 9 1 vm (forV ls ps y).length (strC (forV ls ps y))) := hom
  have HC2 : Hid (Chiefs w2 ao po b off b' off' n m c ls ps) := HC1.out.later hb2
  have HB2 : Hid (Below w.heap.size w w2) := HB1.out.trans (hb2.mono HB1.out.size)
  clear hem hom hb2 HC1 HB1
  go_wp2_with fail
  refine (checkR_any _ _ _ _ _ _ _ _ _ _ mx ls ps _ HC2.out HPZ.out ((HB2.out.cell (p := ⟨2, 0, none⟩) hgl).trans HMX.out)).mono ?_
  rintro e w3 ⟨rfl, hb3⟩
  obtain ⟨e0, he0⟩ : ∃ e0, e0 = checkF ls ps := ⟨_, rfl⟩
  rw [← he0]
  have HE0 : Hid (e0 = checkF ls ps) := he0
  have HB3 : Hid (Below w.heap.size w w3) := HB2.out.trans (hb3.mono HB2.out.size)
  have HOM3 : Hid (w3.ownsRow w1.heap.size 9 1 vm (forV ls ps y).length (strC (forV ls ps y))) := own_below HOM2.out hb3
  have HC3 : Hid (Chiefs w3 ao po b off b' off' n m c ls ps) := HC2.out.later hb3
  clear he0 hb3 HOM2 HC2 HB2
  go_wp2_with fail
  refine (chiefed_any _).mono ?_
  rintro e w4 ⟨rfl, hb4⟩
  have HB4 : Hid (Below w.heap.size w w4) := HB3.out.trans (hb4.mono HB3.out.size)
  have HOM4 : Hid (w4.ownsRow w1.heap.size 9 1 vm (forV ls ps y).length (strC (forV ls ps y))) := own_below HOM3.out hb4
  have HC4 : Hid (Chiefs w4 ao po b off b' off' n m c ls ps) := HC3.out.later hb4
  clear hb4 HOM3 HC3 HB3
  go_wp2_with fail
  refine (check_of HC4).mono ?_
  rintro e wq ⟨rfl, hbq⟩
  rw [← HE0.out]
  have HBQ : Hid (Below w.heap.size w wq) := HB4.out.trans (hbq.mono HB4.out.size)
  have HOM1 : Hid (wq.ownsRow w1.heap.size 9 1 vm (forV ls ps y).length (strC (forV ls ps y))) := own_below HOM4.out hbq
  have HCQ : Hid (Chiefs wq ao po b off b' off' n m c ls ps) := HC4.out.later hbq
  clear hbq HOM4 HC4 HB4
  obtain ⟨am0, cm0, hvm0⟩ := slice_of HOM1.out
  have be0 : (e0 == e0) = true := by simp
  have bn0 : (e0 != e0) = false := by simp
  by_cases h0 : e0 = 0
  · have hz := HE0.out.symm.trans h0
    subst h0
    obtain ⟨g1, g2, g3, _⟩ := right_of hz
    have HL6 : Hid (ls.length ≤ 6) := g1
    have HRI : Hid (Act.Right ls ps) := g3
    have hm10 : m ≤ 10 := by have := HCQ.out.lm; omega
    have hn6 : n ≤ 6 := by have := HCQ.out.ln; omega
    clear be0 bn0 g1 g2 g3
    by_cases hy : y ∈ ls
    · have HY : Hid (y ∈ ls) := hy
      have z1 : forE ls ps y = 0 := by simp [forE, hz, Act.has_iff.2 hy]
      have hv1 : forV ls ps y = Act.forF ls ps y := by simp [forV, z1]
      have HOM : Hid (wq.ownsRow w1.heap.size 9 1 vm (Act.forF ls ps y).length (strC (Act.forF ls ps y))) := by have := HOM1; rwa [hv1] at this
      have hmz := HEM.out.trans z1
      subst hmz
      have HHY : Hid (Act.has ls y = true) := Act.has_iff.2 hy
      clear z1 hv1 HOM1 HEM hvm0
      by_cases hx : x ∈ ls
      · have z2 : actsE ls ps x y = 0 := by simp [actsE, hz, Act.has_iff.2 hx, Act.has_iff.2 hy]
        have z3 : actsV ls ps x y = Act.acts ls ps x y := by simp [actsV, z2]
        have HXY : Hid (Act.acts ls ps x y = true ↔ Act.Way ps x y) := Act.acts_iff HRI.out hx hy
        have HVA2 : Hid (va = Act.acts ls ps x y) := HVA.out.trans z3
        have hez := HEA.out.trans z2
        subst hez
        have HHX : Hid (Act.has ls x = true) := Act.has_iff.2 hx
        clear z2 z3 HVA HEA hx hy hz
        have HVA : Hid (va = Act.acts ls ps x y) := HVA2
        clear HVA2
        go_wp2_with fail
        refine (contains_of HCQ x).mono ?_
        rintro e w5 ⟨rfl, hw⟩
        have hw' := hw.symm
        subst hw'
        rw [HHX.out]
        go_wp2_with fail
        refine (contains_of HCQ y).mono ?_
        rintro e w5 ⟨rfl, hw⟩
        have hw' := hw.symm
        subst hw'
        rw [HHY.out]
        go_wp2_with fail
        refine (contains_of HCQ y).mono ?_
        rintro e w5 ⟨rfl, hw⟩
        have hw' := hw.symm
        subst hw'
        rw [HHY.out]
        go_wp2
        go_loopw [15, 79] (fun v i wr => ∃ k : Nat, k ≤ n ∧ i = .int .i64 k ∧ Hid (SeenSt wq wr v ((ls.take k).filter fun a => Act.acts ls ps a y))) (fun _ i _ => n - (intOf i).toNat)
        case atStart => exact ⟨0, Nat.zero_le _, rfl, Below.refl _ _, World.ownsRow_nil _ _ _ _⟩
        case round =>
          obtain ⟨k, hk, rfl, HS⟩ := hrel
          have HCW : Hid (Chiefs wr ao po b off b' off' n m c ls ps) := HCQ.out.later HS.out.bel
          obtain ⟨l, hl⟩ : ∃ l, l = (ls.take k).filter fun a => Act.acts ls ps a y := ⟨_, rfl⟩
          rw [← hl] at HS
          have HLL : Hid (l = (ls.take k).filter fun a => Act.acts ls ps a y) := hl
          have hll : l.length ≤ 6 := by
            rw [hl]
            have h1 := List.length_filter_le (fun a => Act.acts ls ps a y) (ls.take k)
            have h2 := List.length_take (i := k) (l := ls)
            have := HL6.out
            omega
          obtain ⟨ao', cap', hv⟩ := slice_of HS.out.own
          subst hv
          clear hl
          by_cases hlt : k < n
          · have hl0 := HCW.out.ln
            have hkl : k < ls.length := by omega
            have hao := HCW.out.strs.adr (by omega)
            have f0 := HCW.out.strs.cell k hkl
            have hst := filt_step2 ls ps y hkl
            rw [← HLL.out] at hst
            obtain ⟨x0, hx0⟩ : ∃ x0, x0 = ls[k] := ⟨_, rfl⟩
            rw [← hx0] at f0 hst
            have hmem : x0 ∈ ls := hx0 ▸ List.getElem_mem hkl
            have HAI : Hid (Act.acts ls ps x0 y = true ↔ Act.Way ps x0 y) := Act.acts_iff HRI.out hmem HY.out
            have HST : Hid ((ls.take (k + 1)).filter (fun a => Act.acts ls ps a y) = l ++ (if Act.acts ls ps x0 y = true then [x0] else [])) := hst
            clear hl0 hx0 hmem hst
            subst hao
            go_wp2_with fail
            refine (actsR_any _ _ _ _ _ ps x0 y _ HCW.out.lm hm10 HCW.out.prs).mono ?_
            rintro e w5 ⟨r0, rfl, hr0, hb5⟩
            have HS5 : Hid (SeenSt wq w5 (.slice ao' l.length cap') l) := ⟨HS.out.bel.trans (hb5.mono HS.out.bel.size), own_below HS.out.own hb5⟩
            have HRR : Hid (Act.acts ls ps x0 y = r0) := by
              show _ = _
              rw [Bool.eq_iff_iff, HAI.out, hr0]
            clear hr0 hb5
            cases r0 with
            | false =>
              have HNX : Hid ((ls.take (k + 1)).filter (fun a => Act.acts ls ps a y) = l) := by show _ = _; rw [HST.out, HRR.out]; simp
              go_wp2
              go_roundw
              case rel => exact ⟨k + 1, by omega, by go_num, by rw [HNX.out]; exact HS5⟩
              case measure => simp [intOf]; omega
            | true =>
              have HNX : Hid ((ls.take (k + 1)).filter (fun a => Act.acts ls ps a y) = l ++ [x0]) := by show _ = _; rw [HST.out, HRR.out]; simp
              obtain ⟨i0, hi, hz0, hz1, hz2⟩ := info_parts Tryd.infoStr
              have hbz := HS5.out.bel.size
              go_wp2_with (at_builtin; refine wpList_append_own _ rfl _ _ 34 rfl wq.heap.size 9 i0 (.string ⟨#[]⟩) 1 16 Tryd.underlying34 hi hz0 hz1 hz2 rfl (by decide) _ _ _ rfl (World.ownsRow.alloc HS5.out.own _) ⟨w5.heap.size, 0, none⟩ 1 1 [.string x0] rfl rfl ?c1 ?c2 ?c3 ?c4 ?c5 ?_)
              case c1 => exact one_new _ _ _
              case c2 => intro u hu; simp at hu; subst hu; rfl
              case c3 => unfold maxLen; omega
              case c4 => omega
              case c5 => simp; omega
              · intro v' w6 hown6 hgrow6 _
                have HN6 : Hid (SeenSt wq w6 v' (l ++ [x0])) := HS5.out.step hown6 hgrow6
                clear hown6 hgrow6
                go_wp2
                go_roundw
                case rel => exact ⟨k + 1, by omega, by go_num, by rw [HNX.out]; exact HN6⟩
                case measure => simp [intOf]; omega
          · have HLE : Hid (l = Act.forF ls ps y) := by
              show _ = _
              rw [HLL.out, List.take_of_length_le (by have := HCW.out.ln; omega)]; rfl
            have hml : (Act.forF ls ps y).length ≤ 1000 := by rw [← HLE.out]; omega
            obtain ⟨aw, gw, cw, hvw, _, _, ssw⟩ := strs_of_own HS.out.own
            obtain ⟨am, gm, cm, hvm, _, _, ssm⟩ := strs_of_own (own_below HOM.out HS.out.bel)
            have hvw' := hvw
            rw [hvw] at HS
            have HKE : Hid (Calls Tryd.prog 21 #[vm, .slice ao' l.length cap'] wr fun e w' => e = .returned (.bool true) ∧ Below wr.heap.size wr w') := by
              rw [HLE.out] at hvw ssw
              have h := eqStr am aw gm 0 gw 0 (Act.forF ls ps y).length cm cw (Act.forF ls ps y) wr rfl hml ssm ssw
              rw [hvm, hvw']
              rw [HLE.out]
              exact h
            have HBR : Hid (Below w.heap.size w wr) := HBQ.out.trans (HS.out.bel.mono HBQ.out.size)
            clear hvw hvw' hvm ssw ssm hml
            go_wp2_with fail
            refine HKE.out.mono ?_
            rintro e w7 ⟨rfl, hb7⟩
            have HB7 : Hid (Below w.heap.size w w7) := HBR.out.trans (hb7.mono HBR.out.size)
            have HC7 : Hid (Chiefs w7 ao po b off b' off' n m c ls ps) := HCW.out.later hb7
            clear hb7
            go_wp2_with fail
            refine (actsR_any _ _ _ _ _ ps x y _ HC7.out.lm hm10 HC7.out.prs).mono ?_
            rintro e w8 ⟨r0, rfl, hr0, hb8⟩
            have HRR : Hid (va = r0) := by
              show _ = _
              rw [HVA.out, Bool.eq_iff_iff, HXY.out, hr0]
            have HB8 : Hid (Below w.heap.size w w8) := HB7.out.trans (hb8.mono HB7.out.size)
            clear hr0 hb8
            obtain rfl := HRR.out
            have hbb : (va == va) = true := by simp
            clear HRR HVA
            go_wp2
            go_ret
            first | exact ⟨rfl, HB8.out⟩ | (refine ⟨?_, HB8.out⟩; simp)
      · have z2 : actsE ls ps x y = 5 := by simp [actsE, hz, Act.has_not.2 hx]
        have z3 : actsV ls ps x y = false := by simp [actsV, z2]
        have hez := HEA.out.trans z2
        have hvz := HVA.out.trans z3
        subst hez hvz
        have HHX : Hid (Act.has ls x = false) := Act.has_not.2 hx
        clear z2 z3 HVA HEA hx hy hz
        go_wp2_with fail
        refine (contains_of HCQ x).mono ?_
        rintro e w5 ⟨rfl, hw⟩
        have hw' := hw.symm
        subst hw'
        rw [HHX.out]
        go_wp2_with fail
        refine (contains_of HCQ y).mono ?_
        rintro e w5 ⟨rfl, hw⟩
        have hw' := hw.symm
        subst hw'
        rw [HHY.out]
        go_wp2
        go_loopw [15, 79] (fun v i wr => ∃ k : Nat, k ≤ n ∧ i = .int .i64 k ∧ Hid (SeenSt wq wr v ((ls.take k).filter fun a => Act.acts ls ps a y))) (fun _ i _ => n - (intOf i).toNat)
        case atStart => exact ⟨0, Nat.zero_le _, rfl, Below.refl _ _, World.ownsRow_nil _ _ _ _⟩
        case round =>
          obtain ⟨k, hk, rfl, HS⟩ := hrel
          have HCW : Hid (Chiefs wr ao po b off b' off' n m c ls ps) := HCQ.out.later HS.out.bel
          obtain ⟨l, hl⟩ : ∃ l, l = (ls.take k).filter fun a => Act.acts ls ps a y := ⟨_, rfl⟩
          rw [← hl] at HS
          have HLL : Hid (l = (ls.take k).filter fun a => Act.acts ls ps a y) := hl
          have hll : l.length ≤ 6 := by
            rw [hl]
            have h1 := List.length_filter_le (fun a => Act.acts ls ps a y) (ls.take k)
            have h2 := List.length_take (i := k) (l := ls)
            have := HL6.out
            omega
          obtain ⟨ao', cap', hv⟩ := slice_of HS.out.own
          subst hv
          clear hl
          by_cases hlt : k < n
          · have hl0 := HCW.out.ln
            have hkl : k < ls.length := by omega
            have hao := HCW.out.strs.adr (by omega)
            have f0 := HCW.out.strs.cell k hkl
            have hst := filt_step2 ls ps y hkl
            rw [← HLL.out] at hst
            obtain ⟨x0, hx0⟩ : ∃ x0, x0 = ls[k] := ⟨_, rfl⟩
            rw [← hx0] at f0 hst
            have hmem : x0 ∈ ls := hx0 ▸ List.getElem_mem hkl
            have HAI : Hid (Act.acts ls ps x0 y = true ↔ Act.Way ps x0 y) := Act.acts_iff HRI.out hmem HY.out
            have HST : Hid ((ls.take (k + 1)).filter (fun a => Act.acts ls ps a y) = l ++ (if Act.acts ls ps x0 y = true then [x0] else [])) := hst
            clear hl0 hx0 hmem hst
            subst hao
            go_wp2_with fail
            refine (actsR_any _ _ _ _ _ ps x0 y _ HCW.out.lm hm10 HCW.out.prs).mono ?_
            rintro e w5 ⟨r0, rfl, hr0, hb5⟩
            have HS5 : Hid (SeenSt wq w5 (.slice ao' l.length cap') l) := ⟨HS.out.bel.trans (hb5.mono HS.out.bel.size), own_below HS.out.own hb5⟩
            have HRR : Hid (Act.acts ls ps x0 y = r0) := by
              show _ = _
              rw [Bool.eq_iff_iff, HAI.out, hr0]
            clear hr0 hb5
            cases r0 with
            | false =>
              have HNX : Hid ((ls.take (k + 1)).filter (fun a => Act.acts ls ps a y) = l) := by show _ = _; rw [HST.out, HRR.out]; simp
              go_wp2
              go_roundw
              case rel => exact ⟨k + 1, by omega, by go_num, by rw [HNX.out]; exact HS5⟩
              case measure => simp [intOf]; omega
            | true =>
              have HNX : Hid ((ls.take (k + 1)).filter (fun a => Act.acts ls ps a y) = l ++ [x0]) := by show _ = _; rw [HST.out, HRR.out]; simp
              obtain ⟨i0, hi, hz0, hz1, hz2⟩ := info_parts Tryd.infoStr
              have hbz := HS5.out.bel.size
              go_wp2_with (at_builtin; refine wpList_append_own _ rfl _ _ 34 rfl wq.heap.size 9 i0 (.string ⟨#[]⟩) 1 16 Tryd.underlying34 hi hz0 hz1 hz2 rfl (by decide) _ _ _ rfl (World.ownsRow.alloc HS5.out.own _) ⟨w5.heap.size, 0, none⟩ 1 1 [.string x0] rfl rfl ?c1 ?c2 ?c3 ?c4 ?c5 ?_)
              case c1 => exact one_new _ _ _
              case c2 => intro u hu; simp at hu; subst hu; rfl
              case c3 => unfold maxLen; omega
              case c4 => omega
              case c5 => simp; omega
              · intro v' w6 hown6 hgrow6 _
                have HN6 : Hid (SeenSt wq w6 v' (l ++ [x0])) := HS5.out.step hown6 hgrow6
                clear hown6 hgrow6
                go_wp2
                go_roundw
                case rel => exact ⟨k + 1, by omega, by go_num, by rw [HNX.out]; exact HN6⟩
                case measure => simp [intOf]; omega
          · have HLE : Hid (l = Act.forF ls ps y) := by
              show _ = _
              rw [HLL.out, List.take_of_length_le (by have := HCW.out.ln; omega)]; rfl
            have hml : (Act.forF ls ps y).length ≤ 1000 := by rw [← HLE.out]; omega
            obtain ⟨aw, gw, cw, hvw, _, _, ssw⟩ := strs_of_own HS.out.own
            obtain ⟨am, gm, cm, hvm, _, _, ssm⟩ := strs_of_own (own_below HOM.out HS.out.bel)
            have hvw' := hvw
            rw [hvw] at HS
            have HKE : Hid (Calls Tryd.prog 21 #[vm, .slice ao' l.length cap'] wr fun e w' => e = .returned (.bool true) ∧ Below wr.heap.size wr w') := by
              rw [HLE.out] at hvw ssw
              have h := eqStr am aw gm 0 gw 0 (Act.forF ls ps y).length cm cw (Act.forF ls ps y) wr rfl hml ssm ssw
              rw [hvm, hvw']
              rw [HLE.out]
              exact h
            have HBR : Hid (Below w.heap.size w wr) := HBQ.out.trans (HS.out.bel.mono HBQ.out.size)
            clear hvw hvw' hvm ssw ssm hml
            go_wp2_with fail
            refine HKE.out.mono ?_
            rintro e w7 ⟨rfl, hb7⟩
            have HB7 : Hid (Below w.heap.size w w7) := HBR.out.trans (hb7.mono HBR.out.size)
            have HC7 : Hid (Chiefs w7 ao po b off b' off' n m c ls ps) := HCW.out.later hb7
            clear hb7
            go_wp2
            go_ret
            exact ⟨rfl, HB7.out⟩
    · have z1 : forE ls ps y = 5 := by simp [forE, hz, Act.has_not.2 hy]
      have hv1 : forV ls ps y = [] := by simp [forV, z1]
      have z2 : actsE ls ps x y = 5 := by simp [actsE, hz, Act.has_not.2 hy]
      have z3 : actsV ls ps x y = false := by simp [actsV, z2]
      have hmz := HEM.out.trans z1
      have hez := HEA.out.trans z2
      have hvz := HVA.out.trans z3
      rw [hv1] at hvm0
      subst hmz hez hvz hvm0
      have HHY : Hid (Act.has ls y = false) := Act.has_not.2 hy
      obtain ⟨hx, hhx⟩ : ∃ hx, Act.has ls x = hx := ⟨_, rfl⟩
      have HHX : Hid (Act.has ls x = hx) := hhx
      clear z1 hv1 z2 z3 HEM HEA HVA hy hz hhx HOM1
      cases hx with
      | true =>
        go_wp2_with fail
        refine (contains_of HCQ x).mono ?_
        rintro e w5 ⟨rfl, hw⟩
        have hw' := hw.symm
        subst hw'
        rw [HHX.out]
        go_wp2_with fail
        refine (contains_of HCQ y).mono ?_
        rintro e w5 ⟨rfl, hw⟩
        have hw' := hw.symm
        subst hw'
        rw [HHY.out]
        go_wp2_with fail
        refine (contains_of HCQ y).mono ?_
        rintro e w5 ⟨rfl, hw⟩
        have hw' := hw.symm
        subst hw'
        rw [HHY.out]
        go_wp2
        go_ret
        exact ⟨rfl, HBQ.out⟩
      | false =>
        go_wp2_with fail
        refine (contains_of HCQ x).mono ?_
        rintro e w5 ⟨rfl, hw⟩
        have hw' := hw.symm
        subst hw'
        rw [HHX.out]
        go_wp2_with fail
        refine (contains_of HCQ y).mono ?_
        rintro e w5 ⟨rfl, hw⟩
        have hw' := hw.symm
        subst hw'
        rw [HHY.out]
        go_wp2
        go_ret
        exact ⟨rfl, HBQ.out⟩
  · have hz : ¬ checkF ls ps = 0 := fun h => h0 (HE0.out.trans h)
    have z1 : forE ls ps y = checkF ls ps := by simp [forE, hz]
    have hv1 : forV ls ps y = [] := by simp [forV, z1, hz]
    have z2 : actsE ls ps x y = checkF ls ps := by simp [actsE, hz]
    have z3 : actsV ls ps x y = false := by simp [actsV, z2, hz]
    have hmz : em = e0 := (HEM.out.trans z1).trans HE0.out.symm
    have hez : ea = e0 := (HEA.out.trans z2).trans HE0.out.symm
    have hvz := HVA.out.trans z3
    rw [hv1] at hvm0
    have hb : (e0 == 0) = false := by simp [h0]
    have hbn : (e0 != 0) = true := by simp [h0]
    subst hmz hez hvz hvm0
    clear z1 hv1 z2 z3 HEM HEA HVA hz HOM1
    go_wp2
    go_ret
    exact ⟨rfl, HBQ.out⟩
end Go.Proofs.YtilapnfdijjobaaDoor
