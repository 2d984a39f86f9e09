/- Contract of chief.whole. -/
import Derived.Test.YtfhpmnghakhlkaaDoorCheck
import Derived.Test.YtfhpmnghakhlkaaDoorTab
import Derived.Deep.WholeRow
import Derived.Deep.CutBlock
import Derived.Deep.RegionWith
import Derived.BigRegion
import Derived.Deep.DeepCutAuto
namespace Go.Proofs.YtfhpmnghakhlkaaDoor
open Go.RowKit

set_option maxHeartbeats 2000000 in
theorem whole_any (ao po : Option Addr) (b off b' off' n m c d : Nat) (ls : List ByteArray) (ps : List (ByteArray × ByteArray)) (w : World) (hn : n = ls.length) (hm : m = ps.length) (hn6 : n ≤ 6) (hm10 : m ≤ 10)
    (ht : Strs w ao b off ls) (hp : Prs w po b' off' ps) (hr : Act.Right ls ps) :
    Calls Tryd.prog 58 #[.slice ao n c, .slice po m d] w fun e w' => e = .returned (.agg (tabC (Act.whole ls ps))) ∧ Below w.heap.size w w' := by
  have HL : Hid (n = ls.length) := hn
  have HM : Hid (m = ps.length) := hm
  have HR : Hid (Act.Right ls ps) := hr
  clear hn hm hr
  go_enter Tryd.func58, Tryd.ntmps58
  go_wp2
  go_loopw [14] (fun v wr => ∃ k : Nat, k ≤ n ∧ v = .int .i64 k ∧ Hid (TabSt w wr (Act.diag k))) (fun v _ => n - (intOf v).toNat)
  case atStart =>
    refine ⟨0, Nat.zero_le _, rfl, ?_⟩
    have e : Act.diag 0 = fun _ _ => false := by funext x y; simp [Act.diag]
    rw [e]
    refine ⟨((Below.refl _ _).alloc (Nat.le_refl _) _).alloc (by simp) _, ?_, ?_⟩
    · rw [TabAt, tabC_none]; exact heap_past_alloc (heap_at_alloc _ _ _ rfl)
    · rw [TabAt, tabC_none]; exact heap_at_alloc _ _ _ (by simp)
  case round =>
    obtain ⟨k, hk, rfl, HT⟩ := hrel
    by_cases hlt : k < n
    · have f0 := HT.out.tab.cell (x := k) (y := k) (by omega) (by omega)
      have z0 := HT.out.tab.free (k * 6 + k)
      have l0 := lt_of_block HT.out.tab
      go_wp2
      go_roundw
      case rel =>
        refine ⟨k + 1, by omega, by go_num, ?_⟩
        rw [← Act.diag_step]
        exact HT.out.set (by omega) (by omega) true
      case measure => simp [intOf]; omega
    · have hkn : k = n := by omega
      subst hkn
      go_wp2
      go_loopw [24] (fun v wr => ∃ j : Nat, j ≤ m ∧ v = .int .i64 j ∧ Hid (TabSt w wr (Act.tabE ls ps k j))) (fun v _ => m - (intOf v).toNat)
      case atStart => exact ⟨0, Nat.zero_le _, rfl, by rw [Act.tabE_zero]; exact HT⟩
      case round =>
        clear HT
        obtain ⟨j, hj, rfl, HT⟩ := hrel
        by_cases hlt2 : j < m
        · have hl0 := HM.out
          have hpo := hp.adr (by omega)
          subst hpo
          have hjl : j < ps.length := by omega
          have hp' := hp.later HT.out.bel
          have ht' : ∀ (o : Obj) (w' : World), w'.heap = (wr.alloc o).heap → Strs w' ao b off ls := fun o w' e => Strs.of_heap ((ht.later HT.out.bel).later ((Below.refl _ _).alloc (Nat.le_refl _) o)) e
          have f0 := hp'.c0 j hjl
          have f1 := hp'.c1 j hjl
          obtain ⟨x, hx⟩ : ∃ x, x = ps[j] := ⟨_, rfl⟩
          rw [← hx] at f0 f1
          have hm1 := (HR.out.mem x (hx ▸ List.getElem_mem hjl)).1
          have hm2 := (HR.out.mem x (hx ▸ List.getElem_mem hjl)).2
          obtain ⟨x1, x2⟩ := x
          simp only at f0 f1 hm1 hm2
          have HX : Hid ((x1, x2) = ps[j]) := hx
          obtain ⟨p1, hp1⟩ : ∃ p1, Act.pos ls x1 = p1 := ⟨_, rfl⟩
          obtain ⟨p2, hp2⟩ : ∃ p2, Act.pos ls x2 = p2 := ⟨_, rfl⟩
          have P1 : Hid (Act.posI ls x1 = (p1 : Int)) := by show _ = _; rw [Act.posI_mem hm1, hp1]
          have P2 : Hid (Act.posI ls x2 = (p2 : Int)) := by show _ = _; rw [Act.posI_mem hm2, hp2]
          have b1 : p1 < k := by have := Act.pos_lt hm1; have := HL.out; omega
          have b2 : p2 < k := by have := Act.pos_lt hm2; have := HL.out; omega
          have HS : Hid (Act.upd (Act.tabE ls ps k j) p1 p2 true = Act.tabE ls ps k (j + 1)) := Act.tabE_step ls ps k hjl (by rw [← HX.out]; exact hp1) (by rw [← HX.out]; exact hp2)
          have HT' := fun o => HT.out.alloc o
          have g0 := fun o => (HT' o).tab.cell (x := p1) (y := p2) (by omega) (by omega)
          have z0 := fun o => (HT' o).tab.free (p1 * 6 + p2)
          have l0 := lt_of_block HT.out.tab
          have KT : Hid (∀ (o : Obj) (w' : World), w'.heap = (wr.alloc o).heap → Strs w' ao b off ls) := ht'
          clear hl0 hx hp' ht' hm1 hm2 HT' hp1 hp2
          go_wp2
          go_region_with (go_at_call 27; refine (index_gen HL (by omega) (by exact KT.out (.cells #[.string x1, .string x2] 65) _ rfl)).mono ?_; rintro e w' ⟨rfl, rfl⟩; first | rw [P1.out] | rw [P2.out])
          all_goals (try go_wp2_with fail)
          all_goals go_roundw
          all_goals first
            | (refine ⟨j + 1, by omega, by go_num, ?_⟩
               show TabSt _ _ _
               rw [← HS.out]
               repeat (first | refine TabSt.drew ?_ | refine TabSt.drewN ?_ _)
               exact (HT.out.set (by omega) (by omega) true).alloc _)
            | (simp [intOf]; omega)
        · have HJ : Hid (TabSt w wr (Act.D (Act.edge ls ps) k 0)) := by
            have := HT.out
            rwa [Act.tabE_all ls ps k j (by have := HM.out; omega)] at this
          clear HT
          go_wp2
          go_loopw [41] (fun v wr => ∃ q : Nat, q ≤ k ∧ v = .int .i64 q ∧ Hid (TabSt w wr (Act.D (Act.edge ls ps) k q))) (fun v _ => k - (intOf v).toNat)
          case atStart => exact ⟨0, Nat.zero_le _, rfl, HJ⟩
          case round =>
            clear HJ
            obtain ⟨q, hq, rfl, HT⟩ := hrel
            by_cases hltq : q < k
            · go_wp2
              go_loopw [46] (fun v wr => ∃ i : Nat, i ≤ k ∧ v = .int .i64 i ∧ Hid (TabSt w wr (Act.mix (Act.edge ls ps) k q i 0))) (fun v _ => k - (intOf v).toNat)
              case atStart => exact ⟨0, Nat.zero_le _, rfl, by rw [Act.mix_zero]; exact HT⟩
              case round =>
                clear HT
                obtain ⟨i, hi, rfl, HT⟩ := hrel
                by_cases hlti : i < k
                · go_wp2
                  go_loopw [51] (fun v wr => ∃ j : Nat, j ≤ k ∧ v = .int .i64 j ∧ Hid (TabSt w wr (Act.mix (Act.edge ls ps) k q i j))) (fun v _ => k - (intOf v).toNat)
                  case atStart => exact ⟨0, Nat.zero_le _, rfl, HT⟩
                  case round =>
                    clear HT
                    obtain ⟨j, hj, rfl, HT⟩ := hrel
                    by_cases hltj : j < k
                    · have f1 := HT.out.tab.cell (x := i) (y := j) (by omega) (by omega)
                      have f2 := HT.out.tab.cell (x := i) (y := q) (by omega) (by omega)
                      have f3 := HT.out.tab.cell (x := q) (y := j) (by omega) (by omega)
                      rw [Act.mix_ij] at f1
                      rw [Act.mix_ik] at f2
                      rw [Act.mix_kj] at f3
                      have z0 := HT.out.tab.free (i * 6 + j)
                      have l0 := lt_of_block HT.out.tab
                      have hs := Act.mix_step (Act.edge ls ps) k q i j
                      obtain ⟨va, ha⟩ : ∃ va, Act.D (Act.edge ls ps) k q i j = va := ⟨_, rfl⟩
                      obtain ⟨vb, hb⟩ : ∃ vb, Act.D (Act.edge ls ps) k q i q = vb := ⟨_, rfl⟩
                      obtain ⟨vc, hc⟩ : ∃ vc, Act.D (Act.edge ls ps) k q q j = vc := ⟨_, rfl⟩
                      rw [ha] at f1
                      rw [hb] at f2
                      rw [hc] at f3
                      rw [ha, hb, hc] at hs
                      have HS : Hid (Act.upd (Act.mix (Act.edge ls ps) k q i j) i j (va || (vb && vc)) = Act.mix (Act.edge ls ps) k q i (j + 1)) := hs
                      have i1 : (i : Int) < 6 := by omega
                      have i2 : (j : Int) < 6 := by omega
                      have i3 : (q : Int) < 6 := by omega
                      clear ha hb hc hs
                      cases va
                      · cases vb
                        · go_wp2
                          go_region
                          all_goals (try go_wp2_with fail)
                          all_goals go_roundw
                          case rel =>
                            refine ⟨j + 1, by omega, by go_num, ?_⟩
                            show TabSt _ _ _
                            rw [← HS.out]
                            repeat (first | refine TabSt.drew ?_ | refine TabSt.drewN ?_ _)
                            exact HT.out.set (by omega) (by omega) _
                          case measure => simp [intOf]; omega
                        · go_wp2
                          go_region
                          all_goals (try go_wp2_with fail)
                          all_goals go_roundw
                          case rel =>
                            refine ⟨j + 1, by omega, by go_num, ?_⟩
                            show TabSt _ _ _
                            rw [← HS.out]
                            repeat (first | refine TabSt.drew ?_ | refine TabSt.drewN ?_ _)
                            exact HT.out.set (by omega) (by omega) _
                          case measure => simp [intOf]; omega
                      · go_wp2
                        go_region
                        all_goals (try go_wp2_with fail)
                        all_goals go_roundw
                        case rel =>
                          refine ⟨j + 1, by omega, by go_num, ?_⟩
                          show TabSt _ _ _
                          rw [← HS.out]
                          repeat (first | refine TabSt.drew ?_ | refine TabSt.drewN ?_ _)
                          exact HT.out.set (by omega) (by omega) _
                        case measure => simp [intOf]; omega
                    · have hjk : j = k := by omega
                      have HN : Hid (TabSt w wr (Act.mix (Act.edge ls ps) k q (i + 1) 0)) := by
                        have h1 := HT.out
                        have h2 := Act.mix_row HR.out q i
                        rw [← HL.out] at h2
                        rw [hjk, h2] at h1
                        exact h1
                      clear hjk
                      go_wp2
                      go_roundw
                      case rel => exact ⟨i + 1, by omega, by go_num, HN⟩
                      case measure => simp [intOf]; omega
                · have hik : i = k := by omega
                  have HN : Hid (TabSt w wr (Act.D (Act.edge ls ps) k (q + 1))) := by
                    have h1 := HT.out
                    have h2 := Act.mix_all HR.out q
                    rw [← HL.out] at h2
                    rw [hik, h2] at h1
                    exact h1
                  clear hik
                  go_wp2
                  go_roundw
                  case rel => exact ⟨q + 1, by omega, by go_num, HN⟩
                  case measure => simp [intOf]; omega
            · have hqk : q = k := by omega
              have HE : Hid (TabSt w wr (Act.whole ls ps)) := by
                have h1 := HT.out
                rw [hqk] at h1
                unfold Act.whole
                rw [← HL.out]
                exact h1
              clear hqk HT
              have hres := HE.out.res
              have htab := HE.out.tab
              have l0 := lt_of_block hres
              have l1 := lt_of_block htab
              have HI : Hid ((Tryd.prog.info? 95).map (·.size) = some 36) := by show _ = _; kernel_rfl
              go_upto_region 25 with fail
              refine wp_region_lit ?_
              refine wpList_load_row rfl 95 _ rfl (w.heap.size + 1) rfl 95 (tabC (Act.whole ls ps)) (0, 0) _ HE.out.tab Tryd.underlying95 rfl (by rw [HI.out, tabC_size]) ?_
              refine wpList_store_row rfl 95 _ _ rfl w.heap.size (tabC (Act.whole ls ps)) rfl rfl 95 _ HE.out.res (by rw [HI.out, tabC_size]) (by rw [tabC_size, tabC_size]) (tabC_one _) ?_
              have HW : Hid ((wr.setRow w.heap.size (tabC (Act.whole ls ps))).heap[w.heap.size]? = some (.cells (tabC (Act.whole ls ps)) 95 (0, 0))) := setRow_heap _ _ _ _ _ _ HE.out.res
              have HB : Hid (Below w.heap.size w (wr.setRow w.heap.size (tabC (Act.whole ls ps)))) := below_setRow HE.out.bel (Nat.le_refl _) _
              obtain ⟨wz, hwz⟩ : ∃ wz, wz = wr.setRow w.heap.size (tabC (Act.whole ls ps)) := ⟨_, rfl⟩
              rw [← hwz] at HW HB ⊢
              obtain ⟨TT, hTT⟩ : ∃ TT, TT = tabC (Act.whole ls ps) := ⟨_, rfl⟩
              rw [← hTT] at HW ⊢
              clear hwz
              go_wp2_with fail
              refine bodyPost_ret (v := .agg TT) (results_cell_row rfl _ _ w.heap.size 95 TT (0, 0) _ rfl HW.out Tryd.underlying95 rfl (by rw [HI.out, hTT, tabC_size])) rfl ⟨?_, HB.out⟩
              rw [hTT]
end Go.Proofs.YtfhpmnghakhlkaaDoor
