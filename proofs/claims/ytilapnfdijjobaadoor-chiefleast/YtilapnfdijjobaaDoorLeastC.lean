/- Contract of chief.Least. -/
import Derived.Test.YtilapnfdijjobaaDoorLeastP
namespace Go.Proofs.YtilapnfdijjobaaDoor
open Go.RowKit

set_option maxHeartbeats 2000000 in
theorem least_any (ao po : Option Addr) (b off b' off' n m c d : Nat) (ls : List ByteArray) (ps : List (ByteArray × ByteArray)) (w : World) (hc : Chiefs w ao po b off b' off' n m c ls ps) :
    Calls Tryd.prog 22 #[.slice ao n c, .slice po m d] w fun e w' => ∃ v, e = .returned (.tuple #[v, .int .i64 (leastE ls ps)]) ∧ w'.ownsRow w.heap.size 48 2 v (leastV ls ps).length (prC (leastV ls ps)) ∧ Below w.heap.size w w' := by
  have HC : Hid (Chiefs w ao po b off b' off' n m c ls ps) := hc
  clear hc
  by_cases h0 : checkF ls ps = 0
  · obtain ⟨g1, g2, g3, g4⟩ := right_of h0
    have HZ : Hid (checkF ls ps = 0) := h0
    have HR : Hid (Act.Right ls ps) := g3
    have H6 : Hid (ls.length ≤ 6) := g1
    have HNM : Hid (∀ s ∈ ls, Lex.nameF s.data.toList = true) := g4
    have hn6 : n ≤ 6 := by have := HC.out.ln; omega
    clear g1 g2 g3 g4 h0
    go_enter Tryd.func22, Tryd.ntmps22
    go_wp2_with fail
    refine (check_of HC).mono ?_
    rintro e w1 ⟨rfl, hb1⟩
    rw [HZ.out]
    have HC1 : Hid (Chiefs w1 ao po b off b' off' n m c ls ps) := HC.out.later hb1
    go_wp2_with fail
    refine (whole_of HC1 HZ).mono ?_
    rintro e w2 ⟨rfl, hb2⟩
    obtain ⟨TT, hTT⟩ : ∃ TT, TT = tabC (Act.whole ls ps) := ⟨_, rfl⟩
    rw [← hTT]
    have e1 := run_storeCells_new (P := Tryd.prog) w2 65 (tabC fun _ _ => false) TT (by rw [Tryd.infoTab, hTT, tabC_size]) (by rw [hTT, tabC_size, tabC_size]) (by rw [hTT]; exact tabC_one _)
    rw [tabC_none] at e1
    have hsz : TT.size = 36 := by rw [hTT, tabC_size]
    have HTT : Hid (TT = tabC (Act.whole ls ps)) := hTT
    clear hTT
    have HS : Hid (LeastSt w (w2.alloc (.cells TT 65)) (.slice none 0 0) (Act.whole ls ps) [] w2.heap.size) := by
      have h1 := hb1.size
      have h2 := hb2.size
      have hbb := hb1.trans (hb2.mono h1)
      exact ⟨hbb.alloc (by omega) _, by rw [HTT.out]; exact heap_at_alloc _ _ _ rfl, by omega, World.ownsRow_nil _ _ _ _, by simp⟩
    obtain ⟨B, hB⟩ : ∃ B, B = w2.heap.size := ⟨_, rfl⟩
    go_wp2_with fail
    rw [← hB] at HS ⊢
    obtain ⟨wz, hwz⟩ : ∃ wz, wz = w2.alloc (.cells TT 65) := ⟨_, rfl⟩
    rw [← hwz] at HS ⊢
    clear e1 hwz hB hb1 hb2 HC1 HTT hsz
    go_loopw [8, 24] (fun v i wr => ∃ k : Nat, k ≤ n ∧ i = .int .i64 k ∧ Hid (((ls.take k).flatMap fun a => Act.row ls ps a ls).length ≤ 6 * k) ∧ Hid (NoMut ls ps k) ∧ Hid (LeastSt w wr v (Act.whole ls ps) ((ls.take k).flatMap fun a => Act.row ls ps a ls) B)) (fun _ i _ => n - (intOf i).toNat)
    case atStart => exact ⟨0, Nat.zero_le _, rfl, by show _ ≤ _; simp, by show NoMut _ _ _; intro a ha; simp at ha, HS⟩
    case round =>
      clear HS
      obtain ⟨k, hk, rfl, HK6, HNO, HS⟩ := hrel
      by_cases hlt : k < n
      · have hl0 := HC.out.ln
        have hkl : k < ls.length := by omega
        have hao := HC.out.strs.adr (by omega)
        have f0 := (HC.out.strs.later HS.out.bel).cell k hkl
        have l0 := lt_of_block HS.out.tab
        have hx12 := name_short (HNM.out _ (List.getElem_mem hkl))
        have HFS := flat_step ls ps hkl
        have HMS : Hid (NoMut2 ls ps ls[k] ls.length → NoMut ls ps (k + 1)) := noMut_step hkl HNO.out
        have HX : Hid (∃ h : k < ls.length, True) := ⟨hkl, trivial⟩
        obtain ⟨x, hx⟩ : ∃ x, x = ls[k] := ⟨_, rfl⟩
        rw [← hx] at f0 HFS HMS hx12
        have HX : Hid (x = ls[k]) := hx
        have HFS' : Hid ((ls.take (k + 1)).flatMap (fun a => Act.row ls ps a ls) = (ls.take k).flatMap (fun a => Act.row ls ps a ls) ++ Act.row ls ps x ls) := HFS
        have i1 : (k : Int) < 6 := by omega
        obtain ⟨l, hl⟩ : ∃ l, l = (ls.take k).flatMap fun a => Act.row ls ps a ls := ⟨_, rfl⟩
        rw [← hl] at HS HFS' HK6
        obtain ⟨ao', cap', hv⟩ := slice_of HS.out.own
        subst hv
        subst hao
        clear hl hx hl0 HFS
        go_wp2
        go_loopw [8, 31] (fun v i wr => ∃ j : Nat, j ≤ n ∧ i = .int .i64 j ∧ Hid ((l ++ Act.row ls ps x (ls.take j)).length ≤ 6 * k + j) ∧ Hid (NoMut2 ls ps x j) ∧ Hid (LeastSt w wr v (Act.whole ls ps) (l ++ Act.row ls ps x (ls.take j)) B)) (fun _ i _ => n - (intOf i).toNat)
        case atStart => exact ⟨0, Nat.zero_le _, rfl, by show _ ≤ _; simpa [Act.row] using HK6.out, by show NoMut2 _ _ _ _; intro a ha; simp at ha, by simpa [Act.row] using HS⟩
        case round =>
          clear HS HK6
          obtain ⟨j, hj, rfl, HK6, HN2, HS⟩ := hrel
          by_cases hltj : j < n
          · have hl0 := HC.out.ln
            have hjl : j < ls.length := by omega
            have g0 := (HC.out.strs.later HS.out.bel).cell j hjl
            have l1 := lt_of_block HS.out.tab
            have f1 := HS.out.tab.cell (x := k) (y := j) (by omega) (by omega)
            have f2 := HS.out.tab.cell (x := j) (y := k) (by omega) (by omega)
            have hy12 := name_short (HNM.out _ (List.getElem_mem hjl))
            have hrs := row_step ls ps x hjl
            have hns := fun h' => noMut2_step (ps := ps) (x := x) hjl HN2.out h'
            have a1 := at_same ps hkl
            have a2 := at_none HR.out hkl hjl
            have a3 := at_both HR.out hkl hjl
            have a4 := at_one HR.out H6.out hkl hjl
            rw [← HX.out] at a1 a2 a4
            obtain ⟨y, hy⟩ : ∃ y, y = ls[j] := ⟨_, rfl⟩
            rw [← hy] at g0 hy12 hrs hns a2 a4
            have i2 : (j : Int) < 6 := by omega
            have hl6 := HK6.out
            obtain ⟨l2, hl2⟩ : ∃ l2, l2 = l ++ Act.row ls ps x (ls.take j) := ⟨_, rfl⟩
            rw [← hl2] at HS hl6 HK6
            obtain ⟨ao2, cap2, hv⟩ := slice_of HS.out.own
            subst hv
            obtain ⟨v1, h1⟩ : ∃ v, Act.whole ls ps k j = v := ⟨_, rfl⟩
            obtain ⟨v2, h2⟩ : ∃ v, Act.whole ls ps j k = v := ⟨_, rfl⟩
            rw [h1] at f1 a2 a3 a4
            rw [h2] at f2 a3 a4
            by_cases hkj : k = j
            · have hyx : y = x := by rw [hy, HX.out]; simp only [hkj]
              have HR2 : Hid (l ++ Act.row ls ps x (ls.take (j + 1)) = l2) := by
                show _ = _; rw [hrs, hyx, a1.1, hl2]; simp
              have HM2 : Hid (NoMut2 ls ps x (j + 1)) := hns (by rw [hyx]; exact a1.2)
              have b1 : ((k : Int) == (j : Int)) = true := by simp [hkj]
              clear hl2 hy hl0 hrs hns a1 a2 a3 a4 hyx hkj h1 h2
              go_wp2
              go_roundw
              case rel => exact ⟨j + 1, by omega, by go_num, by rw [HR2.out]; show _ ≤ _; omega, HM2, by rw [HR2.out]; exact HS⟩
              case measure => simp [intOf]; omega
            · have b1 : ((k : Int) == (j : Int)) = false := by simp; omega
              cases v1
              · obtain ⟨q1, q2⟩ := a2 rfl
                have HR2 : Hid (l ++ Act.row ls ps x (ls.take (j + 1)) = l2) := by
                  show _ = _; rw [hrs, q1, hl2]; simp
                have HM2 : Hid (NoMut2 ls ps x (j + 1)) := hns q2
                clear hl2 hy hl0 hrs hns a1 a2 a3 a4 hkj h1 h2 q1 q2
                go_wp2
                go_roundw
                case rel => exact ⟨j + 1, by omega, by go_num, by rw [HR2.out]; show _ ≤ _; omega, HM2, by rw [HR2.out]; exact HS⟩
                case measure => simp [intOf]; omega
              · cases v2
                · obtain ⟨q1, q2⟩ := a4 hkj rfl rfl
                  have HM2 : Hid (NoMut2 ls ps x (j + 1)) := hns q2
                  rw [q1] at hrs
                  obtain ⟨TT, hTT⟩ : ∃ TT, TT = tabC (Act.whole ls ps) := ⟨_, rfl⟩
                  have HTT : Hid (TT = tabC (Act.whole ls ps)) := hTT
                  obtain ⟨V, hV⟩ : ∃ V, betwAll (Act.whole ls ps) k j 6 = V := ⟨_, rfl⟩
                  have HV : Hid (betwAll (Act.whole ls ps) k j 6 = V) := hV
                  rw [hV] at hrs
                  have k6 : k < 6 := by omega
                  have j6 : j < 6 := by omega
                  have HL2 : Hid (l2 = l ++ Act.row ls ps x (ls.take j)) := hl2
                  have HRS : Hid (Act.row ls ps x (ls.take (j + 1)) = Act.row ls ps x (ls.take j) ++ (if (!V) = true then [(x, y)] else [])) := hrs
                  clear hTT hV hy hl0 hns a1 a2 a3 a4 hkj h1 h2 q1 q2 hl2 hrs
                  go_upto_region 15 with fail
                  refine wp_region_lit ?_
                  refine wpList_load_row rfl 65 _ rfl B rfl 65 (tabC (Act.whole ls ps)) (0, 0) _ HS.out.tab Tryd.underlying65 rfl (by rw [Tryd.infoTab, tabC_size]) ?_
                  rw [← HTT.out]
                  go_wp2_with fail
                  rw [HTT.out]
                  refine (between_any (Act.whole ls ps) k j _ k6 j6).mono ?_
                  rintro e w3 ⟨rfl, hb3⟩
                  rw [HV.out]
                  have HS3 : Hid (LeastSt w w3 (.slice ao2 l2.length cap2) (Act.whole ls ps) l2 B) := HS.out.later hb3
                  clear hb3
                  cases V
                  · have HR2 : Hid (l ++ Act.row ls ps x (ls.take (j + 1)) = l2 ++ [(x, y)]) := by
                      show _ = _; rw [HRS.out, HL2.out]; simp
                    clear HRS HL2
                    obtain ⟨i0, hi, hz0, hz1, hz2⟩ := info_parts Tryd.infoPair
                    go_wp2_with fail
                    refine (cloneC x _ (by omega)).mono ?_
                    rintro e w4 ⟨rfl, hb4⟩
                    have HS4 : Hid (LeastSt w w4 (.slice ao2 l2.length cap2) (Act.whole ls ps) l2 B) := HS3.out.later hb4
                    clear hb4
                    go_wp2_with fail
                    refine (cloneC y _ (by omega)).mono ?_
                    rintro e w5 ⟨rfl, hb5⟩
                    have HS5 : Hid (LeastSt w w5 (.slice ao2 l2.length cap2) (Act.whole ls ps) l2 B) := HS4.out.later hb5
                    have hbig := HS5.out.big
                    clear hb5
                    go_wp2_with (at_builtin; refine wpList_append_own _ rfl _ _ 35 rfl (B + 1) 48 i0 (.agg #[.string ⟨#[]⟩, .string ⟨#[]⟩]) 2 32 Tryd.underlying35 hi hz0 hz1 hz2 rfl (by decide) _ _ _ rfl (World.ownsRow.alloc HS5.out.own _) ⟨w5.heap.size, 0, none⟩ 1 1 [.string x, .string y] rfl rfl ?c1 ?c2 ?c3 ?c4 ?c5 ?_)
                    case c1 => exact two_new _ _ _ _
                    case c2 => intro u hu; simp at hu; rcases hu with rfl | rfl <;> rfl
                    case c3 => unfold maxLen; omega
                    case c4 => omega
                    case c5 => simp; omega
                    · intro v' w6 hown2 hgrow2 _
                      have HN : Hid (LeastSt w w6 v' (Act.whole ls ps) (l2 ++ [(x, y)]) B) := HS5.out.step hown2 hgrow2
                      clear hown2 hgrow2
                      go_wp2
                      go_roundw
                      case rel => exact ⟨j + 1, by omega, by go_num, by rw [HR2.out]; show _ ≤ _; simp; omega, HM2, by rw [HR2.out]; exact HN⟩
                      case measure => simp [intOf]; omega
                  · have HR2 : Hid (l ++ Act.row ls ps x (ls.take (j + 1)) = l2) := by
                      show _ = _; rw [HRS.out, HL2.out]; simp
                    clear HRS HL2
                    go_wp2
                    go_roundw
                    case rel => exact ⟨j + 1, by omega, by go_num, by rw [HR2.out]; show _ ≤ _; omega, HM2, by rw [HR2.out]; exact HS3⟩
                    case measure => simp [intOf]; omega
                · have HBo : Hid (bothB ls ps = true) := (both_iff ls ps).2 (a3 hkj rfl rfl)
                  have HE : Hid (leastE ls ps = 4) := by show _ = _; simp [leastE, HZ.out, HBo.out]
                  have HV : Hid (leastV ls ps = []) := by show _ = _; simp [leastV, HE.out]
                  clear hl2 hy hl0 hrs hns a1 a2 a3 a4 hkj h1 h2
                  go_wp2
                  go_ret2
                  rw [HE.out, HV.out]
                  exact ⟨_, rfl, World.ownsRow_nil _ _ _ _, HS.out.bel⟩
          · have hjn : j = n := by omega
            have HT : Hid (ls.take j = ls) := List.take_of_length_le (by have := HC.out.ln; omega)
            have HM3 : Hid (NoMut ls ps (k + 1)) := HMS.out (by have := HN2.out; rwa [show j = ls.length by have := HC.out.ln; omega] at this)
            have HS3 : Hid (LeastSt w wr u8 (Act.whole ls ps) ((ls.take (k + 1)).flatMap fun a => Act.row ls ps a ls) B) := by
              have := HS.out
              rw [HT.out, ← HFS'.out] at this
              exact this
            have HK3 : Hid (((ls.take (k + 1)).flatMap fun a => Act.row ls ps a ls).length ≤ 6 * (k + 1)) := by
              have := HK6.out
              rw [HT.out, ← HFS'.out] at this
              show _ ≤ _; omega
            clear hjn
            go_wp2
            go_roundw
            case rel => exact ⟨k + 1, by omega, by go_num, HK3, HM3, HS3⟩
            case measure => simp [intOf]; omega
      · have HT : Hid (ls.take k = ls) := List.take_of_length_le (by have := HC.out.ln; omega)
        have HBo : Hid (bothB ls ps = false) := noMut_end (by have := HNO.out; rwa [show k = ls.length by have := HC.out.ln; omega] at this)
        have HE : Hid (leastE ls ps = 0) := by show _ = _; simp [leastE, HZ.out, HBo.out]
        have HV : Hid (leastV ls ps = Act.leastF ls ps) := by show _ = _; simp [leastV, HE.out]
        have HS3 : Hid (LeastSt w wr u8 (Act.whole ls ps) (Act.leastF ls ps) B) := by
          have := HS.out
          rw [HT.out] at this
          exact this
        go_wp2
        go_ret2
        rw [HE.out, HV.out]
        exact ⟨_, rfl, ownsRow_le' HS3.out.own (by have := HS3.out.low; omega), HS3.out.bel⟩
  · have HE : Hid (leastE ls ps = checkF ls ps) := by show _ = _; simp [leastE, h0]
    have HV : Hid (leastV ls ps = []) := by show _ = _; simp [leastV, HE.out, h0]
    obtain ⟨e0, he0⟩ : ∃ e0, e0 = checkF ls ps := ⟨_, rfl⟩
    have HZ : Hid (checkF ls ps = e0) := he0.symm
    have hb : (e0 == 0) = false := by simp [he0, h0]
    rw [HE.out, HV.out, HZ.out]
    clear HE HV h0 he0
    go_enter Tryd.func22, Tryd.ntmps22
    go_wp2_with fail
    refine (check_of HC).mono ?_
    rintro e w1 ⟨rfl, hb1⟩
    rw [HZ.out]
    go_wp2
    go_ret2
    exact ⟨_, rfl, World.ownsRow_nil _ _ _ _, hb1⟩
end Go.Proofs.YtilapnfdijjobaaDoor
