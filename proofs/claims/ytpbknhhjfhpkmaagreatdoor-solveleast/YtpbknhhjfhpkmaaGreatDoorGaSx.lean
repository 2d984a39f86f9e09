/- The document's NormalOf, its readers new. Labels in rows that the document's rounds make and change. The document's LeastOf: rounds. SolveLeast: the law returns true. -/
import Derived.Test.YtpbknhhjfhpkmaaGreatDoorGaErr
import Derived.Test.YtpbknhhjfhpkmaaGreatDoorGaSw
import Derived.Deep.DeepHandedRow
import Derived.Deep.LoopGhost
import Derived.Deep.RegionHeld3
import Derived.Deep.Cut
import Derived.Test.YtpbknhhjfhpkmaaGreatDoorGaSame
namespace Go.Proofs.YtpbknhhjfhpkmaaGreatDoor
open Go.RowKit

set_option maxRecDepth 100000 in
set_option maxHeartbeats 8000000 in
theorem normalOfN (po xo : Option Addr) (b off m d xb xoff n c : Nat) (ls : List ByteArray) (ps : List (ByteArray × ByteArray)) (x : List Pol) (w : World) (hp : Pairs w po b off m ps) (hr : Act.Right ls ps) (h66 : ls.length ≤ 6) (hn : n = x.length) (hm : n ≤ 100000) (hx : Pols w xo xb xoff x) (hof : Lab.OfL ls x) (hnm : ∀ s ∈ ls, Lex.nameF s.data.toList = true) (h6 : ∀ p ∈ x, p.2.length ≤ 6) :
    Calls Tryz.prog 14 #[.slice po m d, .slice xo n c] w fun e w' => ∃ (v : Value) (y : List Pol), e = .returned v ∧ Lab.Norm blt plt ps x y ∧ LabNw w' w.heap.size v y ∧ Below w.heap.size w w' := by
  have HP : Hid (Pairs w po b off m ps) := hp
  have HR : Hid (Act.Right ls ps) := hr
  have HN : Hid (n = x.length) := hn
  have HX : Hid (Pols w xo xb xoff x) := hx
  have HOF : Hid (Lab.OfL ls x) := hof
  have HSIX : Hid (ls.length ≤ 6) := h66
  have HNM : Hid (∀ p ∈ x, NamedP p ∧ NamedP (plainF p) ∧ (plainF p).2.length ≤ 6) := fun p hp => ⟨named_of hnm (hof p hp), named_of hnm (of_plain (hof p hp)), Nat.le_trans (plainF_len p) (h6 p hp)⟩
  have H6 : Hid (∀ p ∈ x, p.2.length ≤ 6) := h6
  obtain ⟨wz, hwz⟩ : ∃ wz, wz = ((w.alloc (.map #[] 0)).alloc (.cells #[.map (some w.heap.size)] 71)).alloc (.cells #[.slice none 0 0] 22) := ⟨_, rfl⟩
  have HS0 : Hid (NSt w wz x 0 [] (fun _ => .slice none 0 0) (fun _ => none) (.slice none 0 0)) := by rw [hwz]; exact nst_start w x
  have HWZ : Hid (wz = ((w.alloc (.map #[] 0)).alloc (.cells #[.map (some w.heap.size)] 71)).alloc (.cells #[.slice none 0 0] 22)) := hwz
  have hmm := @run_makeMap Tryz.prog
  clear hp hr hn hx hof hnm h6 hwz h66
  go_enter Tryz.func14, Tryz.ntmps14
  go_wp2
  rw [← HWZ.out]
  clear HWZ
  go_loopw [27] (fun i wr => ∃ k : Nat, k ≤ n ∧ i = .int .i64 k ∧ Hid (∃ L val f kv, NSt w wr x k L val f kv)) (fun i _ => n - (intOf i).toNat)
  case atStart => exact ⟨0, Nat.zero_le _, rfl, _, _, _, _, HS0.out⟩
  case round =>
    clear HS0
    obtain ⟨k, hk, rfl, HL⟩ := hrel
    obtain ⟨L, val, f, kv, hS⟩ := HL.out
    have HS : Hid (NSt w wr x k L val f kv) := hS
    clear HL hS
    by_cases hlt : k < n
    · have hkl : k < x.length := by have := HN.out; omega
      have hX := HX.out.later HS.out.bel
      have hao := hX.adr (by omega)
      have f0 := hX.c0 k hkl
      obtain ⟨pv, f1, hv⟩ := hX.c1 k hkl
      have hnp := HNM.out _ (List.getElem_mem hkl)
      have hp6 := H6.out _ (List.getElem_mem hkl)
      obtain ⟨p, hp⟩ : ∃ p, p = x[k] := ⟨_, rfl⟩
      rw [← hp] at f0 hv hnp hp6
      have HPK : Hid (x[k] = p) := hp.symm
      obtain ⟨o, rs⟩ := p
      simp only at f0 hv hp6
      obtain ⟨ro, rb, roff, rc, hv1, _, _, hv4⟩ := hv
      subst hv1
      have HRS : Hid (Strs wr ro rb roff rs) := hv4
      have HNP : Hid (NamedP (o, rs) ∧ NamedP (plainF (o, rs)) ∧ (plainF (o, rs)).2.length ≤ 6) := hnp
      obtain ⟨rn, hrn⟩ : ∃ rn, rn = rs.length := ⟨_, rfl⟩
      rw [← hrn] at f1 hp6
      have HRN : Hid (rn = rs.length) := hrn
      obtain ⟨pv, hpv⟩ : ∃ pv, pv = Value.slice ro rn rc := ⟨_, rfl⟩
      obtain ⟨wy, hwy⟩ : ∃ wy, wy = ((wr.alloc (.cells #[.string o, .slice ro rn rc] 63)).alloc (.map #[] 0)).alloc (.cells #[.string o, .slice none 0 0] 63) := ⟨_, rfl⟩
      have HI0 : Hid (ISt wr wy o pv rs 0 [] (fun _ => none) (.slice none 0 0)) := by rw [hwy, hpv]; exact ist_start wr o _ rs
      have kp := HI0.out.bp
      rw [hpv] at kp
      have e1 : wy.cell? ⟨wr.heap.size, 1, none⟩ = some (.slice ro rn rc) := by simp [World.cell?, kp]
      have le1 : wr.heap.size < wy.heap.size := lt_of_block kp
      have HWY : Hid (wy = ((wr.alloc (.cells #[.string o, .slice ro rn rc] 63)).alloc (.map #[] 0)).alloc (.cells #[.string o, .slice none 0 0] 63)) := hwy
      have HPV : Hid (pv = Value.slice ro rn rc) := hpv
      clear hX hp hv4 hnp hrn hwy kp hpv
      subst hao
      go_wp2
      rw [← HWY.out]
      clear f0 f1 HWY
      obtain ⟨wq, hwq⟩ : ∃ wq, wq = wr := ⟨wr, rfl⟩
      subst hwq
      go_loopw [38] (fun i wx => ∃ j : Nat, j ≤ rn ∧ i = .int .i64 j ∧ Hid (∃ l g qv, ISt wq wx o pv rs j l g qv)) (fun i _ => rn - (intOf i).toNat)
      case atStart => exact ⟨0, Nat.zero_le _, rfl, _, _, _, HI0.out⟩
      case round =>
        clear HI0 e1 le1
        obtain ⟨j, hj, rfl, HL⟩ := hrel
        obtain ⟨l, g, qv, hI⟩ := HL.out
        have HI : Hid (ISt wq wr o pv rs j l g qv) := hI
        clear HL hI
        have kp := HI.out.bp
        have kq := HI.out.bq
        have cp0 : wr.cell? ⟨wq.heap.size, 0, none⟩ = some (.string o) := by simp [World.cell?, kp]
        have lq : wq.heap.size + 2 < wr.heap.size := lt_of_block kq
        have lp : wq.heap.size < wr.heap.size := lt_of_block kp
        obtain ⟨ao', cap', hqv⟩ := slice_of HI.out.own
        obtain ⟨N, hN⟩ : ∃ N, N = l.length := ⟨_, rfl⟩
        rw [← hN] at hqv
        have HNL : Hid (N = l.length) := hN
        have hN6 : N ≤ j := by rw [hN]; exact HI.out.len
        subst hqv
        have cq1 : wr.cell? ⟨wq.heap.size + 2, 1, none⟩ = some (.slice ao' N cap') := by simp [World.cell?, kq]
        have cq0 : wr.cell? ⟨wq.heap.size + 2, 0, none⟩ = some (.string o) := by simp [World.cell?, kq]
        clear kp kq hN
        by_cases hlt2 : j < rn
        · have hjl : j < rs.length := by have := HRN.out; omega
          have hro := HRS.out.adr (by omega)
          have r0 := (HRS.out.later HI.out.bel).cell j hjl
          have lrb : rb < wr.heap.size := (HRS.out.later HI.out.bel).lt (by omega)
          have hsz : rs[j].size ≤ maxLen := by have := name_short (HNP.out.1.2 _ (List.getElem_mem hjl)); unfold maxLen; omega
          obtain ⟨r, hr⟩ : ∃ r, r = rs[j] := ⟨_, rfl⟩
          have HRJ : Hid (rs[j] = r) := hr.symm
          rw [← hr] at r0 hsz
          have hmap := HI.out.map
          clear hr
          subst hro
          by_cases hin : r ∈ rs.take j
          · obtain ⟨cc, hc1, hc2, hc3⟩ := HI.out.cnt r hin
            have hl1 := hmap.hit unInt (zeroIntZ _) hsz hc3
            obtain ⟨w2, hup, hm2, hg2⟩ := hmap.put unInt hsz (by unfold maxLen; omega) (.int .i64 ((cc : Int) + 1))
            have hl2 := hm2.hit unInt (zeroIntZ _) hsz (putV_same _ _ _)
            have q1 : ((cc : Int) + 1 == 1) = false := by simp; omega
            have HF : Hid (ISt wq w2 o pv rs (j + 1) l (putV g r (.int .i64 ((cc : Int) + 1))) (.slice ao' N cap')) := by
              have h9 := HI.out.skip (w2 := w2) (c := cc) (z := (cc : Int) + 1) hjl hc2 (by omega) (by rw [HRJ.out]; exact hm2) hg2 (.inl (by rw [HRJ.out]; exact hin))
              rw [HRJ.out] at h9
              exact h9
            have lc : cc ≤ 6 := by omega
            clear hmap hm2 hg2 hc3 hin
            go_wp2
            go_roundw
            case rel => exact ⟨j + 1, by omega, by go_num, _, _, _, HF.out⟩
            case measure => simp [intOf]; omega
          · have hl1 := hmap.miss unInt (zeroIntZ _) hsz (HI.out.miss r hin)
            obtain ⟨w2, hup, hm2, hg2⟩ := hmap.put unInt hsz (by unfold maxLen; omega) (.int .i64 1)
            have hl2 := hm2.hit unInt (zeroIntZ _) hsz (putV_same _ _ _)
            have kp2 := (hg2.block _ (lt_of_block HI.out.bp) (by simp)).trans HI.out.bp
            have cp2 : w2.cell? ⟨wq.heap.size, 0, none⟩ = some (.string o) := by simp [World.cell?, kp2]
            by_cases he : r = o
            · have q0 : (r.toList == o.toList) = true := by rw [he]; simp
              have HF : Hid (ISt wq w2 o pv rs (j + 1) l (putV g r (.int .i64 1)) (.slice ao' N cap')) := by
                have h9 := HI.out.skip (w2 := w2) (c := 0) (z := 1) hjl (by omega) rfl (by rw [HRJ.out]; exact hm2) hg2 (.inr (by rw [HRJ.out]; exact he))
                rw [HRJ.out] at h9
                exact h9
              clear hmap hm2 hg2 hin he kp2
              go_wp2
              go_roundw
              case rel => exact ⟨j + 1, by omega, by go_num, _, _, _, HF.out⟩
              case measure => simp [intOf]; omega
            · have q0 : (r.toList == o.toList) = false := beq_ne he
              have kq2 := (hg2.block _ (lt_of_block HI.out.bq) (by simp)).trans HI.out.bq
              have cq2 : w2.cell? ⟨wq.heap.size + 2, 1, none⟩ = some (.slice ao' N cap') := by simp [World.cell?, kq2]
              have lq2 : wq.heap.size + 2 < w2.heap.size := lt_of_block kq2
              have HO2 : Hid (w2.ownsRow (wq.heap.size + 3) 9 1 (.slice ao' N cap') N (strC l)) := by
                have h9 := own_other HI.out.own hg2 (by omega)
                rw [← HNL.out] at h9
                exact h9
              have HPUT : Hid (∀ w3 qv' ob, w3.ownsRow (wq.heap.size + 3) 9 1 qv' (N + 1) (strC l ++ [.string r]) → (w2.alloc ob).grownBy w3 (Value.slice ao' N cap').ownBlock → ISt wq (w3.setCell ⟨wq.heap.size + 2, 1, none⟩ qv') o pv rs (j + 1) (l ++ [r]) (putV g r (.int .i64 1)) qv') := fun w3 qv' ob h1 h2 => by
                have h9 := HI.out.put (w2 := w2) (w3 := w3) (qv' := qv') (ob := ob) hjl (by rw [HRJ.out]; exact hin) (by rw [HRJ.out]; exact he) (by rw [HRJ.out]; exact hm2) hg2 (by rw [HRJ.out, ← HNL.out]; exact h1) h2
                rw [HRJ.out] at h9
                exact h9
              have HBX : Hid (∀ w3 ob, (w2.alloc ob).grownBy w3 (Value.slice ao' N cap').ownBlock → w3.heap[wq.heap.size + 2]? = some (.cells #[.string o, .slice ao' N cap'] 63 (0, 0))) := fun w3 ob h2 =>
                (h2.block _ (lt_of_block (heap_past_alloc kq2)) (fun e => by have h8 := HI.out.own; rw [← HNL.out] at h8; have := (h8.lt _ e.symm).1; omega)).trans (heap_past_alloc kq2)
              obtain ⟨i0, hi, hz0, hz1, hz2⟩ := info_parts Tryz.infoStr
              have hbig : wq.heap.size + 3 ≤ w2.heap.size := lq2
              clear hmap hm2 hg2 hin he kp2 kq2
              go_wp2_with (at_builtin; refine wpList_append_own _ rfl _ _ 22 rfl (wq.heap.size + 3) 9 i0 (.string ⟨#[]⟩) 1 16 Tryz.underlying22 hi hz0 hz1 hz2 rfl (by decide) _ _ _ rfl (World.ownsRow.alloc HO2.out _) ⟨w2.heap.size, 0, none⟩ 1 1 [.string r] rfl rfl ?c1 ?c2 ?c3 ?c4 ?c5 ?_)
              case c1 => exact one_new _ _ _
              case c2 => intro u hu; simp at hu; subst hu; rfl
              case c3 => unfold maxLen; omega
              case c4 => omega
              case c5 => simp; omega
              · intro v' w5 hown5 hgrow5 _
                have k5 := HBX.out _ _ hgrow5
                have c5 : w5.cell? ⟨wq.heap.size + 2, 1, none⟩ = some (.slice ao' N cap') := by simp [World.cell?, k5]
                have z5 : w5.frozen? ⟨wq.heap.size + 2, 1, none⟩ = false := by simp [World.frozen?, k5]
                have l5 : wq.heap.size + 2 < w5.heap.size := lt_of_block k5
                have HF : Hid (ISt wq (w5.setCell ⟨wq.heap.size + 2, 1, none⟩ v') o pv rs (j + 1) (l ++ [r]) (putV g r (.int .i64 1)) v') := HPUT.out _ _ _ hown5 hgrow5
                obtain ⟨a5, cp5, hv5⟩ := slice_of hown5
                subst hv5
                clear hown5 hgrow5 k5 HPUT HBX HO2
                go_wp2
                go_roundw
                case rel => exact ⟨j + 1, by omega, by go_num, _, _, _, HF.out⟩
                case measure => simp [intOf]; omega
        · have hjn : j = rn := by omega
          have HOL : Hid (wr.ownsRow (wq.heap.size + 3) 9 1 (.slice ao' N cap') N (strC l)) := by have h9 := HI.out.own; rw [← HNL.out] at h9; exact h9
          have hcall := sortStr (wq.heap.size + 3) ao' N cap' l wr HNL.out (by omega) HOL.out
          have HMEM : Hid (∀ r, r ∈ l ↔ r ∈ rs ∧ r ≠ o) := fun r => by
            have h9 := HI.out.mem r
            rw [List.take_of_length_le (by have := HRN.out; omega)] at h9
            exact h9
          clear hjn
          go_wp2_with fail
          refine hcall.mono ?_
          rintro e w3 ⟨rfl, hpost⟩
          obtain ⟨l', hperm, hsort, hown3, hgr3⟩ := hpost
          have HCL : Hid (plainF (o, rs) = (o, l')) := clean_sorted HMEM.out HI.out.nodup hperm hsort
          have HNL' : Hid (N = l'.length) := by show _ = _; rw [HNL.out, hperm.length_eq]
          have hlow : ∀ k, (Value.slice ao' N cap').ownBlock = some k → wq.heap.size + 3 ≤ k := fun k he => (hown3.lt _ he).1
          have HB3 : Hid (Below wq.heap.size wq w3) := HI.out.bel.grown hgr3 HI.out.bel.size (fun k he => by have := hlow k he; omega)
          have kq3 : w3.heap[wq.heap.size + 2]? = some (.cells #[.string o, .slice ao' N cap'] 63 (0, 0)) := (hgr3.block _ (lt_of_block HI.out.bq) (fun he => by have := hlow _ he.symm; omega)).trans HI.out.bq
          have HKQ : Hid (w3.heap[wq.heap.size + 2]? = some (.cells #[.string o, .slice ao' N cap'] 63 (0, 0))) := kq3
          have HOFB : Hid (OffB w3 kv.ownBlock (w.heap.size + 3) (o, l') (.slice ao' N cap')) := offB_new hown3 HNL'.out (fun k e => by have := (HS.out.own.lt _ e).2; omega) (by have := lt_of_block HS.out.bx1; omega)
          have HCN : Hid (NamedP (o, l') ∧ l'.length ≤ 6) := by
            have h9 := HNP.out.2
            rw [HCL.out] at h9
            exact h9
          have d0 : w3.cell? ⟨wq.heap.size + 2, 0, none⟩ = some (.string o) := by simp [World.cell?, kq3]
          have d1 : w3.cell? ⟨wq.heap.size + 2, 1, none⟩ = some (.slice ao' N cap') := by simp [World.cell?, kq3]
          have ld : wq.heap.size + 2 < w3.heap.size := lt_of_block kq3
          obtain ⟨J, hJ⟩ : ∃ J : ByteArray, J = ⟨(Lib.join (l'.map (·.data.toList)) [0]).toArray⟩ := ⟨_, rfl⟩
          have HJN : Hid (∀ W', Below w3.heap.size w3 W' → Calls Tryz.prog 34 #[.slice ao' N cap', .string ⟨#[0]⟩] W' fun e w' => e = .returned (.string J) ∧ Below W'.heap.size W' w') := fun W' hb => by
            obtain ⟨ro', rb', roff', rc', k1, k2, k3, k4⟩ := (HOFB.out.later hb).at'
            simp only at k1 k2 k4
            injection k1 with e1 e2 e3
            subst e1 e3
            rw [HNL'.out, hJ]
            exact joinZ _ rb' roff' _ l' W' k4 k2 (by have := HCN.out.2; omega) (by have := named_len HCN.out.1 HCN.out.2; simp only at this; omega)
          obtain ⟨K, hK⟩ : ∃ K, K = keyF (o, l') := ⟨_, rfl⟩
          have HJE : Hid (o ++ ⟨#[0]⟩ ++ J = K) := by show _ = _; rw [hK, hJ]; rfl
          have HK : Hid (K = keyF (o, l')) := hK
          have hKz : K.size ≤ maxLen := by rw [hK]; have := keyF_size HCN.out.1 HCN.out.2; unfold maxLen; omega
          have so : o.size ≤ 12 := name_short HCN.out.1.1
          have sJ : J.size ≤ 100 := by
            have h9 := named_len HCN.out.1 HCN.out.2
            simp only at h9
            rw [hJ]
            show (Lib.join (l'.map (·.data.toList)) [0]).toArray.size ≤ 100
            rw [List.size_toArray]; exact h9
          clear hcall hperm hsort hown3 hgr3 hlow kq3 HI HMEM HOL hK hJ cp0 cq0 cq1 lq lp hN6 HNL
          go_wp2
          go_cut [13] (fun s13 wc => s13 = .string K ∧ Hid (Below w3.heap.size w3 wc))
          case first =>
            go_region_with (go_at_call 34; refine (HJN.out _ (below_drew _)).mono ?_; rintro e w4 ⟨rfl, hb4⟩; have y1 := (hb4.cell (p := ⟨wq.heap.size + 2, 0, none⟩) ld).trans d0; have y2 := (hb4.cell (p := ⟨wq.heap.size + 2, 1, none⟩) ld).trans d1; have HB4 : Hid (Below w3.heap.size w3 w4) := (below_drew w3).trans hb4; clear hb4)
            all_goals (try go_wp2_with fail)
            all_goals go_meet
            all_goals exact ⟨by rw [← HJE.out], HB4⟩
          case rest =>
            obtain ⟨rfl, HB4⟩ := hcut
            have HBQ : Hid (Below wq.heap.size wq wc) := HB3.out.trans (HB4.out.mono HB3.out.size)
            have hS4 := HS.out.later HBQ.out
            have HO4 : Hid (OffB wc kv.ownBlock (w.heap.size + 3) (o, l') (.slice ao' N cap')) := HOFB.out.later HB4.out
            have kq4 := (HB4.out.block _ (lt_of_block HKQ.out)).trans HKQ.out
            have d0' : wc.cell? ⟨wq.heap.size + 2, 0, none⟩ = some (.string o) := by simp [World.cell?, kq4]
            have d1' : wc.cell? ⟨wq.heap.size + 2, 1, none⟩ = some (.slice ao' N cap') := by simp [World.cell?, kq4]
            have ld' : wq.heap.size + 2 < wc.heap.size := lt_of_block kq4
            have b0 : wc.cell? ⟨w.heap.size + 1, 0, none⟩ = some (.map (some w.heap.size)) := by simp [World.cell?, hS4.bx0]
            have b1 : wc.cell? ⟨w.heap.size + 2, 0, none⟩ = some kv := by simp [World.cell?, hS4.bx1]
            have lb1 : w.heap.size + 2 < wc.heap.size := lt_of_block hS4.bx1
            have lb0 : w.heap.size + 1 < wc.heap.size := lt_of_block hS4.bx0
            have HS4 : Hid (NSt w wc x k L val f kv) := hS4
            have HLN : Hid (∀ d ∈ L, NamedP d) := fun d hd => by
              obtain ⟨p, hp, e⟩ := (hS4.mem d).1 hd
              rw [← e]; exact (HNM.out p (List.mem_of_mem_take hp)).2.1
            have HCX : Hid (plainF x[k] = (o, l')) := by show _ = _; rw [HPK.out]; exact HCL.out
            have hask := hS4.map.asks unPol (zeroPolZ _) hKz
            have hk2 : k < maxLen := by unfold maxLen; omega
            have HKL : Hid (∀ j, kv.ownBlock = some j → w.heap.size + 3 ≤ j ∧ j < wq.heap.size) := fun j e => HS.out.own.lt _ e
            have lqw : w.heap.size + 3 ≤ wq.heap.size := lt_of_block HS.out.bx1
            have HKQ4 : Hid (wc.heap[wq.heap.size + 2]? = some (.cells #[.string o, .slice ao' N cap'] 63 (0, 0))) := kq4
            clear HB3 HKQ HOFB HJN HJE d0 d1 ld HS hS4 kq4 HB4 HRS HPV HCL
            by_cases hcL : (o, l') ∈ L
            · have hfv := HS4.out.hit _ hcL
              obtain ⟨vo, vb, voff, vc, hvv, _⟩ := HS4.out.off _ hcL
              rw [hvv] at hfv
              simp only at hfv
              rw [← HK.out] at hfv
              rw [hfv] at hask
              obtain ⟨vn, hvn⟩ : ∃ vn, vn = l'.length := ⟨_, rfl⟩
              rw [← hvn] at hask
              simp only [Option.getD_some, Option.isSome_some] at hask
              have hS5 := HS4.out.later ((Below.refl wc.heap.size wc).alloc (Nat.le_refl _) (.cells #[.string o, .slice vo vn vc] 63))
              obtain ⟨w10, hup, hm10, hg10⟩ := hS5.map.put unPol hKz hk2 (.agg #[.string o, .slice ao' N cap'])
              have HF : Hid (∃ L' val' f' kv', NSt w w10 x (k + 1) L' val' f' kv') := by
                rw [HK.out] at hm10
                exact ⟨_, _, _, _, hS5.again (c := (o, l')) hkl HCX.out hcL HLN.out (HO4.out.later ((Below.refl _ _).alloc (Nat.le_refl _) _)) hm10 hg10⟩
              clear hfv hvv hvn hS5 hm10 hg10 hcL HS4
              go_wp2
              go_roundw
              case rel => exact ⟨k + 1, by omega, by go_num, HF.out⟩
              case measure => simp [intOf]; omega
            · have hfn : f K = none := by
                cases h9 : f K with
                | none => rfl
                | some v =>
                  obtain ⟨d, hd, e⟩ := HS4.out.dom K (by rw [h9]; rfl)
                  rw [HK.out] at e
                  exact absurd (by rw [keyF_inj HCN.out.1 (HLN.out d hd) e]; exact hd) hcL
              rw [hfn] at hask
              simp only [Option.getD_none, Option.isSome_none] at hask
              obtain ⟨ko, kc, hkv⟩ := slice_of HS4.out.own
              obtain ⟨kn, hkn⟩ : ∃ kn, kn = L.length := ⟨_, rfl⟩
              rw [← hkn] at hkv
              subst hkv
              have HKN : Hid (kn = L.length) := hkn
              have hkn6 : kn ≤ 1000 := by
                have h9 := nst_few HS4.out HSIX.out HOF.out
                omega
              have HO5 : Hid ((wc.alloc (.cells #[.string ⟨#[]⟩, .slice none 0 0] 63)).ownsRow (w.heap.size + 3) 9 1 (.slice ko kn kc) kn (strC (L.map keyF))) := by
                have h9 := HS4.out.own
                rw [← HKN.out] at h9
                exact h9.alloc _
              obtain ⟨i0, hi, hz0, hz1, hz2⟩ := info_parts Tryz.infoStr
              have hbig : w.heap.size + 3 ≤ wc.heap.size := lb1
              obtain ⟨w5, hw5⟩ : ∃ w5, w5 = wc.alloc (.cells #[.string ⟨#[]⟩, .slice none 0 0] 63) := ⟨_, rfl⟩
              have hb5 : Below wc.heap.size wc w5 := by rw [hw5]; exact (Below.refl _ _).alloc (Nat.le_refl _) _
              have HS5 : Hid (NSt w w5 x k L val f (.slice ko kn kc)) := HS4.out.later hb5
              have HO6 : Hid (OffB w5 (Value.slice ko kn kc).ownBlock (w.heap.size + 3) (o, l') (.slice ao' N cap')) := HO4.out.later hb5
              have HQ5 : Hid (w5.heap[wq.heap.size + 2]? = some (.cells #[.string o, .slice ao' N cap'] 63 (0, 0))) := (hb5.block _ (lt_of_block HKQ4.out)).trans HKQ4.out
              have HW5 : Hid (w5 = wc.alloc (.cells #[.string ⟨#[]⟩, .slice none 0 0] 63)) := hw5
              have hz5 : w5.heap.size = wc.heap.size + 1 := by rw [hw5]; simp
              clear hfn hkn hw5 hb5
              go_wp2_with (at_builtin; refine wpList_append_own_at _ rfl _ _ 22 rfl (w.heap.size + 3) 9 i0 (.string ⟨#[]⟩) 1 16 Tryz.underlying22 hi hz0 hz1 hz2 rfl (by decide) _ _ _ rfl (World.ownsRow.alloc HO5.out _) ⟨wc.heap.size + 1, 0, none⟩ 1 1 [.string K] rfl rfl ?c1 ?c2 ?c3 ?c4 ?c5 ?_)
              case c1 =>
                have h9 := one_new w5 (.string K) 9
                rw [hz5, HW5.out] at h9
                exact h9
              case c2 => intro u hu; simp at hu; subst hu; rfl
              case c3 => unfold maxLen; omega
              case c4 => omega
              case c5 => simp; omega
              · intro v' w8 hown8 hgr8 _ hloc8
                rw [← HW5.out] at hgr8
                obtain ⟨a8, c8, hv8⟩ := slice_of hown8
                subst hv8
                have past : ∀ q X, w5.heap[q]? = some X → q < w.heap.size + 3 ∨ wq.heap.size ≤ q → w8.heap[q]? = some X := fun q X hq hlo =>
                  (hgr8.block _ (lt_of_block (heap_past_alloc hq)) (fun e => by have := HKL.out q e.symm; omega)).trans (heap_past_alloc hq)
                have k0 := past _ _ HS5.out.bx0 (.inl (by omega))
                have k1 := past _ _ HS5.out.bx1 (.inl (by omega))
                have kq := past _ _ HQ5.out (.inr (by omega))
                have g1 : w8.cell? ⟨w.heap.size + 2, 0, none⟩ = some (.slice ko kn kc) := by simp [World.cell?, k1]
                have g2 : w8.frozen? ⟨w.heap.size + 2, 0, none⟩ = false := by simp [World.frozen?, k1]
                have g3 : w.heap.size + 2 < w8.heap.size := lt_of_block k1
                have n0 : (w8.setCell ⟨w.heap.size + 2, 0, none⟩ (.slice a8 (kn + 1) c8)).heap[w.heap.size + 1]? = some (.cells #[.map (some w.heap.size)] 71 (0, 0)) := heap_past_set k0 (by simp)
                have nq : (w8.setCell ⟨w.heap.size + 2, 0, none⟩ (.slice a8 (kn + 1) c8)).heap[wq.heap.size + 2]? = some (.cells #[.string o, .slice ao' N cap'] 63 (0, 0)) := heap_past_set kq (by simp; omega)
                have e0 : (w8.setCell ⟨w.heap.size + 2, 0, none⟩ (.slice a8 (kn + 1) c8)).cell? ⟨w.heap.size + 1, 0, none⟩ = some (.map (some w.heap.size)) := by simp only [World.cell?, n0]; rfl
                have e1 : (w8.setCell ⟨w.heap.size + 2, 0, none⟩ (.slice a8 (kn + 1) c8)).cell? ⟨wq.heap.size + 2, 0, none⟩ = some (.string o) := by simp only [World.cell?, nq]; rfl
                have e2 : (w8.setCell ⟨w.heap.size + 2, 0, none⟩ (.slice a8 (kn + 1) c8)).cell? ⟨wq.heap.size + 2, 1, none⟩ = some (.slice ao' N cap') := by simp only [World.cell?, nq]; rfl
                have m8 : MapV w8 w.heap.size k f := (HS5.out.map.kept (row := none) (World.grownBy_alloc w5 _ none) (by simp)).kept hgr8 (fun e => by have := HKL.out _ e.symm; omega)
                have m9 : MapV (w8.setCell ⟨w.heap.size + 2, 0, none⟩ (.slice a8 (kn + 1) c8)) w.heap.size k f := m8.kept (row := some (w.heap.size + 2)) (grown_set (grown_refl _ _) rfl _) (by simp)
                obtain ⟨w10, hup, hm10, hg10⟩ := m9.put unPol hKz hk2 (.agg #[.string o, .slice ao' N cap'])
                have HF : Hid (∃ L' val' f' kv', NSt w w10 x (k + 1) L' val' f' kv') := by
                  rw [HK.out] at hm10
                  have hown9 : w8.ownsRow (w.heap.size + 3) 9 1 (.slice a8 (kn + 1) c8) (L.length + 1) (strC (L.map keyF) ++ [.string (keyF (o, l'))]) := by rw [← HKN.out, ← HK.out]; exact hown8
                  exact ⟨_, _, _, _, HS5.out.fresh (c := (o, l')) hkl HCX.out hcL HLN.out HCN.out.1 HO6.out hown9 hgr8 (hloc8.imp id fun h9 => h9.trans (by simp [hz5])) hm10 hg10⟩
                have lq8 : wq.heap.size + 2 < w8.heap.size := lt_of_block kq
                clear past k0 k1 kq n0 nq m8 m9 hm10 hg10 hown8 hgr8 hloc8
                go_wp2
                go_roundw
                case rel => exact ⟨k + 1, by omega, by go_num, HF.out⟩
                case measure => simp [intOf]; omega
    · have hkn0 : k = n := by omega
      have HMX : Hid (∀ c, c ∈ L ↔ Lab.cleaned blt x c) := fun c => by
        have h9 := HS.out.mem c
        rw [List.take_of_length_le (by have := HN.out; omega)] at h9
        rw [h9, ← clean_plain, List.mem_map]
      obtain ⟨ko, kc, hkv⟩ := slice_of HS.out.own
      obtain ⟨kn, hkn⟩ : ∃ kn, kn = L.length := ⟨_, rfl⟩
      rw [← hkn] at hkv
      subst hkv
      have HKN : Hid (kn = L.length) := hkn
      have HLP : Hid (∀ c ∈ L, ∃ p ∈ x, plainF p = c) := fun c hc => by
        obtain ⟨p, hp, e⟩ := (HS.out.mem c).1 hc
        exact ⟨p, List.mem_of_mem_take hp, e⟩
      have hkn6 : kn ≤ 1000 := by
        have h9 := nst_few HS.out HSIX.out HOF.out
        omega
      have HL6 : Hid (∀ c ∈ L, NamedP c ∧ c.2.length ≤ 6 ∧ Lab.Of ls c) := fun c hc => by
        obtain ⟨p, hp, e⟩ := HLP.out c hc
        rw [← e]; exact ⟨(HNM.out p hp).2.1, (HNM.out p hp).2.2, of_plain (HOF.out p hp)⟩
      have hcall := sortKeys w wr x L k kn kc ko val f HS.out hkn hkn6 (fun c hc => keyF_size (HL6.out c hc).1 (HL6.out c hc).2.1) (fun c hc => (HL6.out c hc).2.1)
      have b1 : wr.cell? ⟨w.heap.size + 2, 0, none⟩ = some (.slice ko kn kc) := by simp [World.cell?, HS.out.bx1]
      have lb1 : w.heap.size + 2 < wr.heap.size := lt_of_block HS.out.bx1
      have hmf : ∀ (fn : Fn) (first cap : Array Value) (w : World), (Instr.makeFunc fn first cap).run Tryz.prog w = .ok (.func fn first cap) w := fun _ _ _ _ => rfl
      clear hkn hkn0
      go_wp2_with fail
      refine hcall.mono ?_
      rintro e wS ⟨rfl, hpost⟩
      obtain ⟨R, hperm, hsort, hownS, hgrS⟩ := hpost
      have hlow : ∀ j, (Value.slice ko kn kc).ownBlock = some j → w.heap.size + 3 ≤ j := fun j he => (HS.out.own.lt _ he).1
      have HBS : Hid (Below w.heap.size w wS) := HS.out.bel.grown hgrS HS.out.bel.size (fun j he => by have := hlow j he; omega)
      have HX0 : Hid (wS.heap[w.heap.size + 1]? = some (.cells #[.map (some w.heap.size)] 71 (0, 0))) := (hgrS.block _ (lt_of_block HS.out.bx0) (fun he => by have := hlow _ he.symm; omega)).trans HS.out.bx0
      have HX1 : Hid (wS.heap[w.heap.size + 2]? = some (.cells #[.slice ko kn kc] 22 (0, 0))) := (hgrS.block _ (lt_of_block HS.out.bx1) (fun he => by have := hlow _ he.symm; omega)).trans HS.out.bx1
      have HMAP : Hid (MapV wS w.heap.size k f) := HS.out.map.kept hgrS (fun he => by have := hlow _ he.symm; omega)
      have HRL : Hid (R.length = kn) := by show _ = _; rw [hperm.length_eq, HKN.out]
      have HRM : Hid (∀ c, c ∈ R ↔ Lab.cleaned blt x c) := fun c => (hperm.mem_iff).trans (HMX.out c)
      have HRI : Hid (∀ c ∈ R, NamedP c ∧ c.2.length ≤ 6 ∧ Lab.Of ls c ∧ ReadersAt wS (val c) c.2 ∧ f (keyF c) = some (.agg #[.string c.1, val c])) := fun c hc => by
        have hcL := hperm.mem_iff.1 hc
        obtain ⟨q1, q2, q3⟩ := HL6.out c hcL
        obtain ⟨ro, rb, roff, rc, e1, e2, e3, e4, e5⟩ := HS.out.off c hcL
        exact ⟨q1, q2, q3, ⟨ro, rb, roff, rc, e1, e2, e3, strs_kept e4 hgrS (fun hp => (e5 hp).2)⟩, HS.out.hit c hcL⟩
      have HNR : Hid (∀ c ∈ R, NewR w.heap.size (c, val c)) := fun c hc => by
        have hcL := hperm.mem_iff.1 hc
        obtain ⟨ro, rb, roff, rc, e1, e2, e3, e4, e5⟩ := HS.out.off c hcL
        intro hpos rb' hown
        have ha := e4.adr hpos
        have hown' : (val c).ownBlock = some rb' := hown
        rw [e1, ha] at hown'
        have h9 : rb = rb' := by simpa [Value.ownBlock] using hown'
        have := (e5 hpos).1
        omega
      have HSR : Hid (∃ g, Strs wS ko g 0 (R.map keyF)) := by
        obtain ⟨ro, rb, roff, rc, e1, _, _, e4, _⟩ := offB_new (o := ⟨#[]⟩) (l := R.map keyF) (g := none) (b0 := 0) hownS (by rw [List.length_map]; exact HRL.out.symm) (fun _ h => by cases h) (Nat.zero_le _)
        simp only at e1 e4
        injection e1 with e5 e6 e7
        rw [e5]
        rcases hownS.2 with ⟨hv, h0⟩ | ⟨g, c0, cur, hv, h1, h2, h3, h4, h5, h6'⟩
        · have e : R = [] := List.length_eq_zero_iff.1 (by rw [HRL.out]; exact h0)
          subst e
          exact ⟨0, Strs.nil _ _⟩
        · injection hv with hv1 hv2 hv3
          refine ⟨g, fun _ => by rw [← e5]; exact hv1, fun j hj => ?_, fun _ => lt_of_block h2⟩
          have e8 : (strC (R.map keyF))[j]? = some (.string (R.map keyF)[j]) := by simp [strC, show j < R.length by simpa using hj]
          rw [← h6', Nat.mul_one, List.getElem?_take_of_lt (by rw [← HRL.out]; simpa using hj), Array.getElem?_toList] at e8
          simp [World.cell?, h2, e8]
      obtain ⟨gS, hSR⟩ := HSR.out
      have HST : Hid (Strs wS ko gS 0 (R.map keyF)) := hSR
      have HSO : Hid (R.Pairwise plt) := hsort
      clear hcall hperm hsort hownS hgrS hlow HS HL6 HLP HMX HKN HNM HOF H6 b1 lb1 hSR HSR HX HN
      have b1 : wS.cell? ⟨w.heap.size + 2, 0, none⟩ = some (.slice ko kn kc) := by simp [World.cell?, HX1.out]
      have lb1 : w.heap.size + 2 < wS.heap.size := lt_of_block HX1.out
      obtain ⟨cov, hcov⟩ : ∃ cov, cov = Lab.coversB ls ps := ⟨_, rfl⟩
      have HCOV : Hid (cov = Lab.coversB ls ps) := hcov
      obtain ⟨i0, hi, hz0, hz1, hz2⟩ := info_parts Tryz.infoPolD
      clear hcov
      go_wp2
      go_loopw [16, 95] (fun v i wr => ∃ j : Nat, j ≤ kn ∧ i = .int .i64 j ∧ Hid (Below wS.heap.size wS wr ∧ wr.ownsRow wS.heap.size 63 2 v (outF cov R val j).length (polC (outF cov R val j)))) (fun _ i _ => kn - (intOf i).toNat)
      case atStart => exact ⟨0, Nat.zero_le _, rfl, Below.refl _ _, World.ownsRow_nil _ _ _ _⟩
      case round =>
        clear b1 lb1
        obtain ⟨j, hj, rfl, HT⟩ := hrel
        have hX1 := (HT.out.1.block _ (lt_of_block HX1.out)).trans HX1.out
        have hX0 := (HT.out.1.block _ (lt_of_block HX0.out)).trans HX0.out
        have b1 : wr.cell? ⟨w.heap.size + 2, 0, none⟩ = some (.slice ko kn kc) := by simp [World.cell?, hX1]
        have b0 : wr.cell? ⟨w.heap.size + 1, 0, none⟩ = some (.map (some w.heap.size)) := by simp [World.cell?, hX0]
        have lb1 : w.heap.size + 2 < wr.heap.size := lt_of_block hX1
        have lb0 : w.heap.size + 1 < wr.heap.size := lt_of_block hX0
        clear hX1 hX0
        by_cases hlt2 : j < kn
        · have hjl : j < R.length := by have := HRL.out; omega
          have hjm : j < (R.map keyF).length := by rw [List.length_map]; exact hjl
          have hko := HST.out.adr (by omega)
          have r0 := (HST.out.later HT.out.1).cell j hjm
          rw [List.getElem_map, Nat.zero_add] at r0
          have lg : gS < wr.heap.size := (HST.out.later HT.out.1).lt (by omega)
          have hqi := HRI.out _ (List.getElem_mem hjl)
          have hgd : R.getD j (⟨#[]⟩, []) = R[j] := by simp [hjl]
          obtain ⟨q, hq⟩ : ∃ q, q = R[j] := ⟨_, rfl⟩
          rw [← hq] at r0 hqi hgd
          have HGD : Hid (R.getD j (⟨#[]⟩, []) = q) := hgd
          obtain ⟨K, hK⟩ : ∃ K, K = keyF q := ⟨_, rfl⟩
          have hKz : K.size ≤ maxLen := by rw [hK]; have := keyF_size hqi.1 hqi.2.1; unfold maxLen; omega
          have hm := HMAP.out.kept (row := none) (gbelow HT.out.1) (by simp)
          have hlk := hm.hit unPol (zeroPolZ _) hKz (by rw [hK]; exact hqi.2.2.2.2)
          rw [← hK] at r0
          obtain ⟨qo, qrs⟩ := q
          obtain ⟨ro, rb, roff, rc, hv1, hv2, hv3, hv4⟩ := hqi.2.2.2.1
          obtain ⟨qv, hqv⟩ : ∃ qv, qv = val (qo, qrs) := ⟨_, rfl⟩
          simp only at hv1 hv2 hv4 hlk
          rw [hv1] at hlk
          obtain ⟨qn, hqn⟩ : ∃ qn, qn = qrs.length := ⟨_, rfl⟩
          rw [← hqn] at hlk
          have HQV : Hid (val (qo, qrs) = .slice ro qn rc) := by show _ = _; rw [hv1, hqn]
          have HQI : Hid (NamedP (qo, qrs) ∧ qrs.length ≤ 6 ∧ Lab.Of ls (qo, qrs) ∧ ReadersAt wS (.slice ro qn rc) qrs) := ⟨hqi.1, hqi.2.1, hqi.2.2.1, by have h9 := hqi.2.2.2.1; simp only at h9; rw [hv1] at h9; rw [hqn]; exact h9⟩
          obtain ⟨ov, ocap, hov⟩ := slice_of HT.out.2
          obtain ⟨on, hon⟩ : ∃ on, on = (outF cov R val j).length := ⟨_, rfl⟩
          rw [← hon] at hov
          subst hov
          have HON : Hid (on = (outF cov R val j).length) := hon
          have hon6 : on ≤ j := by rw [hon]; exact out_len cov R val j
          have HOW : Hid (wr.ownsRow wS.heap.size 63 2 (.slice ov on ocap) on (polC (outF cov R val j))) := by have h9 := HT.out.2; rw [← hon] at h9; exact h9
          have HBT : Hid (Below wS.heap.size wS wr) := HT.out.1
          obtain ⟨wy, hwy⟩ : ∃ wy, wy = wr.alloc (.cells #[.string qo, .slice ro qn rc] 63) := ⟨_, rfl⟩
          have hby : Below wr.heap.size wr wy := by rw [hwy]; exact (Below.refl _ _).alloc (Nat.le_refl _) _
          have HBY : Hid (Below wr.heap.size wr wy) := hby
          have HQB : Hid (wy.heap[wr.heap.size]? = some (.cells #[.string qo, .slice ro qn rc] 63 (0, 0))) := by show _ = _; rw [hwy]; exact heap_at_alloc _ _ _ rfl
          have HWY : Hid (wy = wr.alloc (.cells #[.string qo, .slice ro qn rc] 63)) := hwy
          have HHJ : Hid (j < R.length) := hjl
          clear hq hK hm hqi hv1 hv2 hv4 hqv hqn hon hwy hby hgd HT hjm
          subst hko
          have y1 : wy.cell? ⟨w.heap.size + 2, 0, none⟩ = some (.slice (some ⟨gS, 0, none⟩) kn kc) := (HBY.out.cell (p := ⟨w.heap.size + 2, 0, none⟩) lb1).trans b1
          have ly1 : w.heap.size + 2 < wy.heap.size := Nat.lt_of_lt_of_le lb1 HBY.out.size
          go_wp2
          rw [← HWY.out]
          clear HWY hlk r0 b0 b1 y1 ly1
          obtain ⟨wq, hwq⟩ : ∃ wq, wq = wr := ⟨wr, rfl⟩
          subst hwq
          go_loopw [20, 105] (fun s i wx => ∃ k2 : Nat, k2 ≤ kn ∧ i = .int .i64 k2 ∧ s = .bool (stayF cov R j k2) ∧ Hid (Below wy.heap.size wy wx)) (fun _ i _ => kn - (intOf i).toNat)
          case atStart => exact ⟨0, Nat.zero_le _, rfl, by simp [stayF], Below.refl _ _⟩
          case round =>
            obtain ⟨k2, hk2, rfl, rfl, HBX⟩ := hrel
            have HBW : Hid (Below wq.heap.size wq wr) := HBY.out.trans (HBX.out.mono HBY.out.size)
            have HBWS : Hid (Below wS.heap.size wS wr) := HBT.out.trans (HBW.out.mono HBT.out.size)
            have kq := (HBX.out.block _ (lt_of_block HQB.out)).trans HQB.out
            have q0 : wr.cell? ⟨wq.heap.size, 0, none⟩ = some (.string qo) := by simp [World.cell?, kq]
            have q1 : wr.cell? ⟨wq.heap.size, 1, none⟩ = some (.slice ro qn rc) := by simp [World.cell?, kq]
            have lq : wq.heap.size < wr.heap.size := lt_of_block kq
            by_cases hlt3 : k2 < kn
            · have hkl : k2 < R.length := by have := HRL.out; omega
              have hkm : k2 < (R.map keyF).length := by rw [List.length_map]; exact hkl
              have r0 := (HST.out.later HBWS.out).cell k2 hkm
              rw [List.getElem_map, Nat.zero_add] at r0
              have lg2 : gS < wr.heap.size := (HST.out.later HBWS.out).lt (by omega)
              have hpi := HRI.out _ (List.getElem_mem hkl)
              have hX0 := (HBWS.out.block _ (lt_of_block HX0.out)).trans HX0.out
              have b0 : wr.cell? ⟨w.heap.size + 1, 0, none⟩ = some (.map (some w.heap.size)) := by simp [World.cell?, hX0]
              have lb0' : w.heap.size + 1 < wr.heap.size := lt_of_block hX0
              have hgd : R.getD k2 (⟨#[]⟩, []) = R[k2] := by simp [hkl]
              obtain ⟨p, hp⟩ : ∃ p, p = R[k2] := ⟨_, rfl⟩
              rw [← hp] at r0 hpi hgd
              obtain ⟨K2, hK2⟩ : ∃ K2, K2 = keyF p := ⟨_, rfl⟩
              have hKz2 : K2.size ≤ maxLen := by rw [hK2]; have := keyF_size hpi.1 hpi.2.1; unfold maxLen; omega
              have hm := HMAP.out.kept (row := none) (gbelow HBWS.out) (by simp)
              have hlk := hm.hit unPol (zeroPolZ _) hKz2 (by rw [hK2]; exact hpi.2.2.2.2)
              rw [← hK2] at r0
              obtain ⟨t1, ht1⟩ : ∃ t1, t1 = cov p (qo, qrs) := ⟨_, rfl⟩
              obtain ⟨t2, ht2⟩ : ∃ t2, t2 = cov (qo, qrs) p := ⟨_, rfl⟩
              have hbad : badB cov R j k2 = (decide (k2 ≠ j) && (t1 && (!t2 || decide (k2 < j)))) := by
                unfold badB
                rw [hgd, HGD.out, ← ht1, ← ht2]
              have HSTP : Hid (stayF cov R j (k2 + 1) = (stayF cov R j k2 && !(decide (k2 ≠ j) && (t1 && (!t2 || decide (k2 < j)))))) := by show _ = _; rw [stay_step, hbad]
              obtain ⟨po', prs⟩ := p
              obtain ⟨ro2, rb2, roff2, rc2, hw1, hw2, hw3, hw4⟩ := hpi.2.2.2.1
              simp only at hw1 hw2 hw4 hlk
              rw [hw1] at hlk
              obtain ⟨pn, hpn⟩ : ∃ pn, pn = prs.length := ⟨_, rfl⟩
              rw [← hpn] at hlk
              obtain ⟨wv, hwv⟩ : ∃ wv, wv = wr.alloc (.cells #[.string po', .slice ro2 pn rc2] 63) := ⟨_, rfl⟩
              have hbv : Below wr.heap.size wr wv := by rw [hwv]; exact (Below.refl _ _).alloc (Nat.le_refl _) _
              have HBV : Hid (Below wr.heap.size wr wv) := hbv
              have HPR : Hid (ReadersAt wS (.slice ro2 pn rc2) prs) := by have h9 := hpi.2.2.2.1; simp only at h9; rw [hw1] at h9; show ReadersAt _ _ _; rw [hpn]; exact h9
              have HCA : Hid (∀ W', Below wr.heap.size wr W' → Calls Tryz.prog 29 #[.slice po m d, .agg #[.string po', .slice ro2 pn rc2], .agg #[.string qo, .slice ro qn rc]] W' fun e w' => e = .returned (.bool t1) ∧ Below W'.heap.size W' w') := fun W' hb => by
                have hbb := HBWS.out.trans (hb.mono HBWS.out.size)
                have h9 := coversR po b off m d ls ps (po', prs) (qo, qrs) (.slice ro2 pn rc2) (.slice ro qn rc) W' (HP.out.later (HBS.out.trans (hbb.mono HBS.out.size))) HR.out hpi.2.2.1 HQI.out.2.2.1 (HPR.out.later hbb) (HQI.out.2.2.2.later hbb) (by have := hpi.2.1; simp only at this ⊢; omega) (by have := HQI.out.2.1; simp only at this ⊢; omega)
                rw [← HCOV.out, ← ht1] at h9
                exact h9
              have HCB : Hid (∀ W', Below wr.heap.size wr W' → Calls Tryz.prog 29 #[.slice po m d, .agg #[.string qo, .slice ro qn rc], .agg #[.string po', .slice ro2 pn rc2]] W' fun e w' => e = .returned (.bool t2) ∧ Below W'.heap.size W' w') := fun W' hb => by
                have hbb := HBWS.out.trans (hb.mono HBWS.out.size)
                have h9 := coversR po b off m d ls ps (qo, qrs) (po', prs) (.slice ro qn rc) (.slice ro2 pn rc2) W' (HP.out.later (HBS.out.trans (hbb.mono HBS.out.size))) HR.out HQI.out.2.2.1 hpi.2.2.1 (HQI.out.2.2.2.later hbb) (HPR.out.later hbb) (by have := HQI.out.2.1; simp only at this ⊢; omega) (by have := hpi.2.1; simp only at this ⊢; omega)
                rw [← HCOV.out, ← ht2] at h9
                exact h9
              have HWV : Hid (wv = wr.alloc (.cells #[.string po', .slice ro2 pn rc2] 63)) := hwv
              have kv2 : wv.heap[wr.heap.size]? = some (.cells #[.string po', .slice ro2 pn rc2] 63 (0, 0)) := by rw [hwv]; exact heap_at_alloc _ _ _ rfl
              have HKV : Hid (∀ W', Below wv.heap.size wv W' → W'.cell? ⟨wr.heap.size, 0, none⟩ = some (.string po') ∧ W'.cell? ⟨wr.heap.size, 1, none⟩ = some (.slice ro2 pn rc2) ∧ W'.cell? ⟨wq.heap.size, 0, none⟩ = some (.string qo) ∧ W'.cell? ⟨wq.heap.size, 1, none⟩ = some (.slice ro qn rc) ∧ wr.heap.size < W'.heap.size ∧ wq.heap.size < W'.heap.size) := fun W' hb => by
                have k8 := (hb.block _ (lt_of_block kv2)).trans kv2
                have k9 := (hb.block _ (Nat.lt_of_lt_of_le lq hbv.size)).trans ((hbv.block _ lq).trans kq)
                exact ⟨by simp [World.cell?, k8], by simp [World.cell?, k8], by simp [World.cell?, k9], by simp [World.cell?, k9], lt_of_block k8, lt_of_block k9⟩
              obtain ⟨s0, hs0⟩ : ∃ s0, s0 = stayF cov R j k2 := ⟨_, rfl⟩
              rw [← hs0] at HSTP ⊢
              clear hp hK2 hm hpi hX0 hgd hbad hw1 hw2 hw4 hpn hwv hbv kv2 ht1 ht2 hs0 kq hkm
              by_cases hji : k2 = j
              · have z0 : ((k2 : Int) == (j : Int)) = true := by simp [hji]
                have HE : Hid (stayF cov R j (k2 + 1) = s0) := by show _ = _; rw [HSTP.out]; simp [hji]
                have HBE : Hid (Below wy.heap.size wy wv) := HBX.out.trans (HBV.out.mono HBX.out.size)
                clear HSTP hji
                go_wp2
                rw [← HWV.out]
                go_roundw
                case rel => exact ⟨k2 + 1, by omega, by go_num, by rw [HE.out], HBE⟩
                case measure => simp [intOf]; omega
              · have z0 : ((k2 : Int) == (j : Int)) = false := by simp; omega
                have hcA := HCA.out wv HBV.out
                cases t1 with
                | false =>
                  have HE : Hid (stayF cov R j (k2 + 1) = s0) := by show _ = _; rw [HSTP.out]; simp
                  clear HSTP hji
                  go_wp2_with fail
                  rw [← HWV.out]
                  refine hcA.mono ?_
                  rintro e w6 ⟨rfl, hb6⟩
                  have HB6 : Hid (Below wy.heap.size wy w6) := (HBX.out.trans (HBV.out.mono HBX.out.size)).trans (hb6.mono (Nat.le_trans HBX.out.size HBV.out.size))
                  clear hb6 hcA
                  go_wp2
                  go_roundw
                  case rel => exact ⟨k2 + 1, by omega, by go_num, by rw [HE.out], HB6⟩
                  case measure => simp [intOf]; omega
                | true =>
                  go_wp2_with fail
                  rw [← HWV.out]
                  refine hcA.mono ?_
                  rintro e w6 ⟨rfl, hb6⟩
                  obtain ⟨u1, u2, u3, u4, u5, u6⟩ := HKV.out w6 hb6
                  have HB6 : Hid (Below wy.heap.size wy w6) := (HBX.out.trans (HBV.out.mono HBX.out.size)).trans (hb6.mono (Nat.le_trans HBX.out.size HBV.out.size))
                  have hcB := HCB.out w6 (HBV.out.trans (hb6.mono HBV.out.size))
                  clear hb6 hcA q0 q1
                  cases t2 with
                  | false =>
                    have HE : Hid (stayF cov R j (k2 + 1) = false) := by show _ = _; rw [HSTP.out]; simp [hji]
                    clear HSTP hji
                    go_wp2_with fail
                    refine hcB.mono ?_
                    rintro e w7 ⟨rfl, hb7⟩
                    have HB7 : Hid (Below wy.heap.size wy w7) := HB6.out.trans (hb7.mono HB6.out.size)
                    clear hb7 hcB
                    go_wp2
                    go_roundw
                    case rel => exact ⟨k2 + 1, by omega, by go_num, by rw [HE.out], HB7⟩
                    case measure => simp [intOf]; omega
                  | true =>
                    by_cases hkj : k2 < j
                    · have HE : Hid (stayF cov R j (k2 + 1) = false) := by show _ = _; rw [HSTP.out]; simp [hji, hkj]
                      have z1 : (k2 : Int) < (j : Int) := by omega
                      clear HSTP hji
                      go_wp2_with fail
                      refine hcB.mono ?_
                      rintro e w7 ⟨rfl, hb7⟩
                      have HB7 : Hid (Below wy.heap.size wy w7) := HB6.out.trans (hb7.mono HB6.out.size)
                      clear hb7 hcB
                      go_wp2
                      go_roundw
                      case rel => exact ⟨k2 + 1, by omega, by go_num, by rw [HE.out], HB7⟩
                      case measure => simp [intOf]; omega
                    · have HE : Hid (stayF cov R j (k2 + 1) = s0) := by show _ = _; rw [HSTP.out]; simp [hkj]
                      have z1 : ¬ ((k2 : Int) < (j : Int)) := by omega
                      clear HSTP hji
                      go_wp2_with fail
                      refine hcB.mono ?_
                      rintro e w7 ⟨rfl, hb7⟩
                      have HB7 : Hid (Below wy.heap.size wy w7) := HB6.out.trans (hb7.mono HB6.out.size)
                      clear hb7 hcB
                      go_wp2
                      go_roundw
                      case rel => exact ⟨k2 + 1, by omega, by go_num, by rw [HE.out], HB7⟩
                      case measure => simp [intOf]; omega
            · have hk2n : k2 = R.length := by have := HRL.out; omega
              have e9 : stayF cov R j k2 = stayF cov R j R.length := by rw [hk2n]
              rw [e9]
              have hos := out_step cov R val j
              rw [HGD.out, HQV.out] at hos
              have HOS : Hid (outF cov R val (j + 1) = outF cov R val j ++ (if stayF cov R j R.length = true then [((qo, qrs), .slice ro qn rc)] else [])) := hos
              obtain ⟨s0, hs0⟩ : ∃ s0, s0 = stayF cov R j R.length := ⟨_, rfl⟩
              rw [← hs0] at HOS ⊢
              have HOW2 : Hid (wr.ownsRow wS.heap.size 63 2 (.slice ov on ocap) on (polC (outF cov R val j))) := own_below HOW.out HBW.out
              have hbig : wS.heap.size ≤ wr.heap.size := HBWS.out.size
              clear hos hs0 hk2n kq e9
              cases s0 with
              | false =>
                have HE : Hid (outF cov R val (j + 1) = outF cov R val j) := by show _ = _; rw [HOS.out]; simp
                clear HOS
                go_wp2
                go_roundw
                case rel => exact ⟨j + 1, by omega, by go_num, HBWS.out, by rw [HE.out, ← HON.out]; exact HOW2.out⟩
                case measure => simp [intOf]; omega
              | true =>
                have HE : Hid (outF cov R val (j + 1) = outF cov R val j ++ [((qo, qrs), .slice ro qn rc)]) := by show _ = _; rw [HOS.out]; simp
                clear HOS
                go_wp2_with (at_builtin; refine wpList_append_own _ rfl _ _ 34 rfl wS.heap.size 63 i0 (.agg #[.string ⟨#[]⟩, .slice none 0 0]) 2 40 Tryz.underlying34 hi hz0 hz1 hz2 rfl (by decide) _ _ _ rfl (World.ownsRow.alloc HOW2.out _) ⟨wr.heap.size, 0, none⟩ 1 1 [.string qo, .slice ro qn rc] rfl rfl ?c1 ?c2 ?c3 ?c4 ?c5 ?_)
                case c1 => exact two_new _ _ _ _
                case c2 => intro u hu; simp at hu; rcases hu with rfl | rfl <;> rfl
                case c3 => unfold maxLen; omega
                case c4 => omega
                case c5 => simp; omega
                · intro v2 w3 hown3 hgrow3 _
                  have hlo : ∀ k, (Value.slice ov on ocap).ownBlock = some k → wS.heap.size ≤ k := fun k he => (HOW2.out.lt _ he).1
                  have HF : Hid (Below wS.heap.size wS w3 ∧ w3.ownsRow wS.heap.size 63 2 v2 (outF cov R val (j + 1)).length (polC (outF cov R val (j + 1)))) := by
                    refine ⟨(HBWS.out.alloc HBWS.out.size _).grown hgrow3 (by simp; omega) (fun k he => hlo k he), ?_⟩
                    rw [HE.out, List.length_append, ← HON.out, ← polC_snoc]
                    exact hown3
                  clear hown3 hgrow3 hlo
                  go_wp2
                  go_roundw
                  case rel => exact ⟨j + 1, by omega, by go_num, HF.out⟩
                  case measure => simp [intOf]; omega
        · have hjn : j = R.length := by have := HRL.out; omega
          have HF : Hid (∃ (y : List Pol), Lab.Norm blt plt ps x y ∧ LabNw wr w.heap.size u16 y ∧ Below w.heap.size w wr) := by
            refine ⟨(outF cov R val j).map (·.1), ?_, ⟨outF cov R val j, rfl, by rw [List.length_map]; exact ownsRow_le' HT.out.2 HBS.out.size, fun z hz => ?_⟩, HBS.out.trans (HT.out.1.mono HBS.out.size)⟩
            · rw [hjn]
              refine norm_out HRM.out HSO.out (fun a ha c hc => ?_)
              rw [HCOV.out]
              exact Lab.covers_iff HR.out (HRI.out a ha).2.2.1 (HRI.out c hc).2.2.1
            · obtain ⟨e1, e2⟩ := out_sub (by omega) z hz
              refine ⟨?_, ?_⟩
              · rw [e2]
                exact (HRI.out _ e1).2.2.2.1.later HT.out.1
              · have h9 := HNR.out _ e1
                rw [← e2] at h9
                exact h9
          clear hjn HT
          go_wp2
          go_ret
          obtain ⟨y, h9⟩ := HF.out
          exact ⟨u16, y, rfl, h9⟩
end Go.Proofs.YtpbknhhjfhpkmaaGreatDoor

namespace Go.Proofs.YtpbknhhjfhpkmaaGreatDoor
open Go.RowKit

theorem Off.new {w : World} {z : PV} {B : Nat} (h : Off w none z) (hB : w.heap.size ≤ B) : Off w (some B) z := by
  obtain ⟨ro, rb, roff, rc, h1, h2, h3, h4, _⟩ := h
  refine ⟨ro, rb, roff, rc, h1, h2, h3, h4, fun hp e => ?_⟩
  injection e with e
  have := h4.lt hp
  omega
theorem Off.any {w : World} {g : Option Nat} {z : PV} (h : Off w g z) : Off w none z := by
  obtain ⟨ro, rb, roff, rc, h1, h2, h3, h4, _⟩ := h
  exact ⟨ro, rb, roff, rc, h1, h2, h3, h4, fun _ e => by cases e⟩
theorem OffLb.new {w : World} {y : LV} {B : Nat} (h : OffLb w none y) (hB : w.heap.size ≤ B) : OffLb w (some B) y := by
  obtain ⟨M, ao, b, cap, h1, h2, h3, h4, h5, h6, h7⟩ := h.ex
  refine ⟨⟨M, ao, b, cap, h1, h2, h3, h4, fun hp => ⟨(h5 hp).1, fun e => ?_, (h5 hp).2.2⟩, h6, fun z hz => (h7 z hz).new hB⟩⟩
  injection e with e
  have := (h5 hp).2.2
  omega
theorem OffLb.any {w : World} {g : Option Nat} {y : LV} (h : OffLb w g y) : OffLb w none y := by
  obtain ⟨M, ao, b, cap, h1, h2, h3, h4, h5, h6, h7⟩ := h.ex
  exact ⟨⟨M, ao, b, cap, h1, h2, h3, h4, fun hp => ⟨(h5 hp).1, fun e => (by cases e), (h5 hp).2.2⟩, h6, fun z hz => (h7 z hz).any⟩⟩
theorem OffLb.nil (w : World) (g : Option Nat) : OffLb w g ([], .slice none 0 0) :=
  ⟨⟨[], none, 0, 0, rfl, rfl, Nat.le_refl _, Nat.zero_le _, fun hp => by simp at hp, ⟨fun k h => by simp at h, fun k h => by simp at h⟩, fun z hz => by cases hz⟩⟩
theorem OffLb.form {w : World} {g : Option Nat} {y : LV} (h : OffLb w g y) : ∃ ao cap, y.2 = .slice ao y.1.length cap := by
  obtain ⟨M, ao, b, cap, _, h2, _⟩ := h.ex
  exact ⟨ao, cap, h2⟩

/- The labels that a round begins with. -/
structure HvSt (W : World) (n : Nat) (ao : Option Addr) (B : Nat) (L : List LV) : Prop where
  len : L.length = n
  adr : 0 < n → ao = some ⟨B, 0, none⟩
  cell : ∀ k (h : k < L.length), W.cell? ⟨B, k, none⟩ = some L[k].2
  off : ∀ y ∈ L, OffLb W none y
theorem HvSt.later {W W' : World} {n : Nat} {ao : Option Addr} {B : Nat} {L : List LV} (h : HvSt W n ao B L) (hb : Below W.heap.size W W') : HvSt W' n ao B L := ⟨h.len, h.adr, fun k hk => cell_below hb (h.cell k hk), fun y hy => (h.off y hy).later hb⟩
theorem HvSt.lbs {W : World} {n : Nat} {ao : Option Addr} {B : Nat} {L : List LV} (h : HvSt W n ao B L) (hs : ∀ y ∈ L, ∀ p ∈ y.1, SmallP p) : LbsAt W ao B 0 (L.map (·.1)) := by
  refine ⟨fun hp => h.adr (by rw [List.length_map, h.len] at hp; exact hp), fun k hk => ?_⟩
  have hk' : k < L.length := by simpa using hk
  refine ⟨L[k].2, by rw [Nat.zero_add]; exact h.cell k hk', ?_⟩
  have := (h.off _ (List.getElem_mem hk')).val (hs _ (List.getElem_mem hk'))
  simpa using this
/- Those that it gathers. -/
structure NxSt (W0 W : World) (n : Nat) (ao : Option Addr) (B : Nat) (L : List LV) : Prop where
  bel : Below W0.heap.size W0 W
  len : L.length = n
  lo : W0.heap.size ≤ B
  adr : 0 < n → ao = some ⟨B, 0, none⟩
  cell : ∀ k (h : k < L.length), W.cell? ⟨B, k, none⟩ = some L[k].2
  fre : 0 < n → ∀ k, W.frozen? ⟨B, k, none⟩ = false
  off : ∀ y ∈ L, OffLb W (some B) y
theorem NxSt.lt {W0 W : World} {n : Nat} {ao : Option Addr} {B : Nat} {L : List LV} (h : NxSt W0 W n ao B L) (hn : 0 < n) : B < W.heap.size := World.block_lt_of_cell? W _ (h.cell 0 (by rw [h.len]; exact hn))
theorem NxSt.later {W0 W W' : World} {n : Nat} {ao : Option Addr} {B : Nat} {L : List LV} (h : NxSt W0 W n ao B L) (hb : Below W.heap.size W W') : NxSt W0 W' n ao B L := by
  refine ⟨h.bel.trans (hb.mono h.bel.size), h.len, h.lo, h.adr, fun k hk => cell_below hb (h.cell k hk), fun hn k => ?_, fun y hy => (h.off y hy).later hb⟩
  have := h.fre hn k
  unfold World.frozen? at this ⊢
  rw [hb.block B (h.lt hn)]
  exact this
theorem NxSt.hv {W0 W : World} {n : Nat} {ao : Option Addr} {B : Nat} {L : List LV} (h : NxSt W0 W n ao B L) : HvSt W n ao B L := ⟨h.len, h.adr, h.cell, fun y hy => (h.off y hy).any⟩
theorem NxSt.put {W0 W : World} {n : Nat} {ao : Option Addr} {B : Nat} {L : List LV} (h : NxSt W0 W n ao B L) {t : Nat} (ht : t < n) {y : LV} (hy : OffLb W (some B) y) : NxSt W0 (W.setCell ⟨B, t, none⟩ y.2) n ao B (L.set t y) := by
  have hgr : W.grownBy (W.setCell ⟨B, t, none⟩ y.2) (some B) := grown_set (grown_refl _ _) rfl _
  have hstep : ∀ z : LV, OffLb W (some B) z → OffLb (W.setCell ⟨B, t, none⟩ y.2) (some B) z := fun z hz =>
    OffLb.step (v := .slice (some ⟨B, 0, none⟩) 0 0) (v2 := .slice (some ⟨B, 0, none⟩) 0 0) hz hgr (.inl rfl)
  have htl : t < L.length := by rw [h.len]; exact ht
  refine ⟨h.bel.setCell (p := ⟨B, t, none⟩) h.lo _, by rw [List.length_set]; exact h.len, h.lo, h.adr, fun k hk => ?_, fun hn k => by rw [World.frozen?_setCell]; exact h.fre hn k, fun z hz => ?_⟩
  · have hk' : k < L.length := by simpa using hk
    by_cases e : k = t
    · subst e
      rw [World.cell?_setCell_same _ _ _ (h.cell k hk')]
      simp
    · rw [World.cell?_setCell_other _ _ _ _ (by first | (simp; done) | (simp; omega)), h.cell k hk', List.getElem_set_ne (Ne.symm e)]
  · rcases List.mem_or_eq_of_mem_set hz with hz | rfl
    · exact hstep z (h.off z hz)
    · exact hstep _ hy

theorem eqlL (ao : Option Addr) (n c : Nat) (w : World) : (binOp .eql 25 (.slice ao n c) (.slice none 0 0)).run Tryz.prog w = .ok (.bool ao.isNone) w := by
  show (Bind.bind (Op.equal 25 (.slice ao n c) (.slice none 0 0)) fun r => (Pure.pure (Value.bool r) : Sem Value)).run Tryz.prog w = _
  simp [run_equal_slice_nil w 25 34 ao n c Tryz.underlying25]
set_option maxHeartbeats 1000000 in
theorem cloneLs (a : Addr) (n c : Nat) (news : List Value) (w : World) (hl : news.length = n * 1) (hm : n ≤ 1000) (hc : ∀ j u, news[j]? = some u → w.cell? (a.add j) = some u) (h1 : ∀ u ∈ news, u.oneCell' = true) :
    Calls Tryz.prog 26 #[.slice (some a) n c] w fun e w' => ∃ v, e = .returned v ∧ w'.ownsRow w.heap.size 34 1 v n news ∧ Below w.heap.size w w' := by
  have HL : Hid (news.length = n * 1) := hl
  have HC : Hid (∀ j u, news[j]? = some u → w.cell? (a.add j) = some u) := hc
  have H1 : Hid (∀ u ∈ news, u.oneCell' = true) := h1
  clear hl hc h1
  obtain ⟨i0, hi, hz0, hz1, hz2⟩ := info_parts Tryz.infoLabD
  have hnil := fun wx => eqlL (some a) n c wx
  simp only [Option.isNone_some] at hnil
  go_enter Tryz.func26, Tryz.ntmps26
  have HO : Hid ((w.alloc (.cells #[] 34)).ownsRow w.heap.size 34 1 (.slice (some ⟨w.heap.size, 0, none⟩) 0 0) 0 []) :=
    ⟨rfl, .inr ⟨w.heap.size, 0, #[], rfl, Nat.le_refl _, heap_at_alloc _ _ _ rfl, Nat.le_refl _, by simp [maxLen], rfl, rfl⟩⟩
  go_wp2_with (at_builtin; refine wpList_append_own _ rfl _ _ 25 rfl w.heap.size 34 i0 (.slice none 0 0) 1 24 Tryz.underlying25 hi hz0 hz1 hz2 rfl (by decide) _ _ _ rfl HO.out a n c news rfl ?c0 ?c1 ?c2 ?c3 ?c4 ?c5 ?_)
  case c0 => rw [HL.out]
  case c1 =>
    have hb : Below w.heap.size w (w.alloc (.cells #[] 34)) := (Below.refl _ _).alloc (Nat.le_refl _) _
    exact fun j u hu => cell_below hb (HC.out j u hu)
  case c2 => exact H1.out
  case c3 => unfold maxLen; omega
  case c4 => omega
  case c5 => simp
  · intro v' w2 hown2 hgrow2 _
    have HB : Hid (Below w.heap.size w w2) := ((Below.refl w.heap.size w).alloc (Nat.le_refl _) _).grown hgrow2 (by simp) (fun k he => by simp [Value.ownBlock] at he; omega)
    have HW : Hid (w2.ownsRow w.heap.size 34 1 v' n news) := by
      show World.ownsRow _ _ _ _ _ _ _
      simpa using hown2
    clear hown2 hgrow2
    go_wp2
    go_ret
    exact ⟨_, rfl, HW.out, HB.out⟩
set_option maxHeartbeats 1000000 in
theorem cloneLn (n c : Nat) (w : World) : Calls Tryz.prog 26 #[.slice none n c] w fun e w' => e = .returned (.slice none 0 0) ∧ w' = w := by
  have hnil := fun wx => eqlL none n c wx
  simp only [Option.isNone_none] at hnil
  go_enter Tryz.func26, Tryz.ntmps26
  go_wp2
  go_ret
  exact ⟨rfl, rfl⟩
theorem nx_none {W W' : World} {L : List LV} (hb : Below W.heap.size W W') (h : L.length = 0) (ao : Option Addr) : NxSt W W' 0 ao W.heap.size L := by
  have e : L = [] := List.length_eq_zero_iff.1 h
  subst e
  exact ⟨hb, rfl, Nat.le_refl _, fun h => absurd h (by omega), fun k hk => by simp at hk, fun h => absurd h (by omega), fun y hy => by cases hy⟩
theorem cloneHv (n : Nat) (ao : Option Addr) (B c : Nat) (L : List LV) (W : World) (h : HvSt W n ao B L) (hn : n ≤ 400) :
    Calls Tryz.prog 26 #[.slice ao n c] W fun e W' => ∃ ao' c' B', e = .returned (.slice ao' n c') ∧ NxSt W W' n ao' B' L := by
  cases ao with
  | none =>
    have h0 : n = 0 := by
      apply Classical.byContradiction
      intro hne
      have := h.adr (by omega)
      cases this
    subst h0
    refine (cloneLn 0 c W).mono ?_
    rintro e W' ⟨rfl, rfl⟩
    exact ⟨none, 0, _, rfl, nx_none (Below.refl _ _) h.len none⟩
  | some a =>
    refine (cloneLs a n c (L.map (·.2)) W (by rw [List.length_map, h.len, Nat.mul_one]) (by omega) (fun j u hu => ?_) (fun u hu => ?_)).mono ?_
    · obtain ⟨hj, e⟩ := List.getElem?_eq_some_iff.1 hu
      have hj' : j < L.length := by simpa using hj
      have ha : some a = some ⟨B, 0, none⟩ := h.adr (by rw [← h.len]; omega)
      injection ha with ha
      subst ha
      have e1 : (⟨B, 0, none⟩ : Addr).add j = ⟨B, j, none⟩ := by rw [Addr.add_lit, Nat.zero_add]
      rw [e1, h.cell j hj', ← e]
      simp
    · obtain ⟨y, hy, rfl⟩ := List.mem_map.1 hu
      obtain ⟨ao, cap, e⟩ := (h.off y hy).form
      rw [e]; rfl
    · rintro e W' ⟨v, rfl, hown, hb⟩
      by_cases h0 : n = 0
      · subst h0
        obtain ⟨ao', c', hv⟩ := slice_of hown
        exact ⟨ao', c', _, by rw [hv], nx_none hb h.len ao'⟩
      · rcases hown.2 with ⟨_, hz⟩ | ⟨g, cap, cur, hv, hg, hh, hc1, hc2, hsz, htk⟩
        · exact absurd hz h0
        · refine ⟨some ⟨g, 0, none⟩, cap, g, by rw [hv], hb, h.len, hg, fun _ => rfl, fun k hk => ?_, fun _ k => by simp [World.frozen?, hh], fun y hy => ((h.off y hy).new hg).later hb⟩
          rw [cell_blk hh, ← Array.getElem?_toList]
          have e : (cur.toList.take (n * 1))[k]? = (L.map (·.2))[k]? := by rw [htk]
          rw [List.getElem?_take, if_pos (by rw [← h.len]; omega)] at e
          rw [e]
          simp [hk]
theorem made_lab (n : Nat) (w : World) (hn : n ≤ 400) : ∃ MC : Array Value, (Instr.makeSlice 25 (.int .i64 (n : Int)) (.int .i64 (n : Int))).run Tryz.prog w = .ok (.slice (some ⟨w.heap.size, 0, none⟩) n n) (w.alloc (.cells MC 34)) ∧ ∀ j, j < n → MC[j]? = some (.slice none 0 0) := by
  obtain ⟨i0, hi, hz0, hz1, hz2⟩ := info_parts Tryz.infoLabD
  have hr := run_make (P := Tryz.prog) w 25 34 i0 _ Tryz.underlying25 hi hz0 .i64 .i64 n n (by omega) (Int.le_refl _) (by rw [hz2]; omega) (by omega)
  simp only [Int.toNat_natCast] at hr
  refine ⟨_, hr, fun j hj => ?_⟩
  rw [hz1]
  simp only [madeCells, Value.cells]
  simp [hj, Nat.mod_one]
theorem made_hv {n : Nat} {w : World} {MC : Array Value} (h : ∀ j, j < n → MC[j]? = some (.slice none 0 0)) : HvSt (w.alloc (.cells MC 34)) n (some ⟨w.heap.size, 0, none⟩) w.heap.size (List.replicate n ([], .slice none 0 0)) := by
  refine ⟨by simp, fun _ => rfl, fun k hk => ?_, fun y hy => ?_⟩
  · have hk' : k < n := by simpa using hk
    rw [cell_blk (heap_at_alloc _ _ _ rfl), h k hk']
    simp
  · obtain ⟨_, rfl⟩ := List.mem_replicate.1 hy
    exact OffLb.nil _ _
end Go.Proofs.YtpbknhhjfhpkmaaGreatDoor

namespace Go.Proofs.YtpbknhhjfhpkmaaGreatDoor
open Go.RowKit

/- All policies that are told, and as they come clean. -/
def uniX (l : List RBd) : List Pol := l.flatMap (·.lab)
def uni (l : List RBd) : List Pol := uniX l ++ (uniX l).map plainF
theorem uni_closed (l : List RBd) : Sol.Closed blt (uni l) := by
  intro p hp c hc
  rcases List.mem_append.1 hp with h | h
  · have : c = plainF p := Lab.clean_unique blt_order hc (plainF_clean p)
    rw [this]
    exact List.mem_append_right _ (List.mem_map_of_mem h)
  · obtain ⟨q, hq, rfl⟩ := List.mem_map.1 h
    have : c = plainF q := Lab.clean_unique blt_order hc (Lab.clean_clean (plainF_clean q))
    rw [this]
    exact hp
theorem bring_in {l : List RBd} {hv : List (List Pol)} {x : RBd} (hx : x ∈ l) (hU : ∀ k p, Sol.hs hv k p → p ∈ uni l) : ∀ p ∈ bringL hv x, p ∈ uni l := by
  intro p hp
  rcases List.mem_append.1 hp with h | h
  · exact List.mem_append_left _ (List.mem_flatMap.2 ⟨x, hx, h⟩)
  · obtain ⟨i, _, h⟩ := List.mem_flatMap.1 h
    exact hU i.toNat p h
theorem bring_go {ls : List ByteArray} {ps : List (ByteArray × ByteArray)} {hv : List (List Pol)} {x : RBd} {y : List Pol} (hr : Act.Right ls ps) (hb : ∀ s ∈ x.by_, s ∈ ls) (ho : Lab.OfL ls (bringL hv x)) (hy : Lab.Norm blt plt ps (leftF ls ps (bringL hv x) x.by_) y) : Sol.go ps (fun p => p ∈ y) (Sol.brings ps (toB x) (Sol.hs hv)) ∧ Sol.go ps (Sol.brings ps (toB x) (Sol.hs hv)) (fun p => p ∈ y) :=
  ⟨Sol.go_trans (Sol.go_mayGo.2 (Lab.norm_from hy)) (Sol.go_sub fun q hq => (left_mem hr hb ho q).1 hq), Sol.go_trans (Sol.go_sub fun q hq => (left_mem hr hb ho q).2 hq) (Sol.go_mayGo.2 (Lab.norm_to blt_order plt_order hy))⟩
theorem bringL_ok {ls : List ByteArray} {hv : List (List Pol)} {x : RBd} (h1 : LbOK ls x.lab) (h2 : ∀ y ∈ hv, LbOK ls y) : Lab.OfL ls (bringL hv x) ∧ ∀ p ∈ bringL hv x, p.2.length ≤ 6 := by
  have h := bring_ok h1 h2 x.src.length
  rw [bring_all (Nat.le_refl _)] at h
  exact ⟨h.1, h.2.2⟩
/- One bound's bringing joined in. -/
theorem rnd_step {ls : List ByteArray} {ps : List (ByteArray × ByteArray)} {l : List RBd} {n : Nat} {hv nx : List (List Pol)} {j t : Nat} {y nn : List Pol} (hr : Act.Right ls ps) (h : Sol.Rnd ps (l.map toB) (uni l) n hv nx j) (hlow : Sol.Below ps (l.map toB) (Sol.hs hv)) (hU : ∀ k p, Sol.hs hv k p → p ∈ uni l) (hok : ∀ z ∈ hv, LbOK ls z) (hj : j < l.length) (hbd : BdOK ls n l[j]) (ht : l[j].dst = (t : Int)) (htn : t < n)
    (hy : Lab.Norm blt plt ps (leftF ls ps (bringL hv l[j]) l[j].by_) y) (hn : Lab.Norm blt plt ps (nx.getD t [] ++ y) nn) : Sol.Rnd ps (l.map toB) (uni l) n hv (nx.set t nn) (j + 1) := by
  have hj' : j < (l.map toB).length := by simpa using hj
  have e : (l.map toB)[j] = toB l[j] := by simp
  have ed : (l.map toB)[j].dst = (t : Int) := by rw [e]; exact ht
  have et : (l.map toB)[j].dst.toNat = t := by rw [ed]; simp
  obtain ⟨g1, g2⟩ := bring_go hr hbd.good.by_ (bringL_ok hbd.lab hok).1 hy
  have hyU : ∀ p ∈ y, p ∈ uni l := Sol.norm_in (uni_closed l) (fun p hp => bring_in (List.getElem_mem hj) hU p (List.mem_filter.1 hp).1) hy
  have := Sol.Rnd.step (br := y) (nn := nn) blt_order plt_order (uni_closed l) h hlow hj' (by rw [ed]; omega) (by rw [et]; exact htn) (by rw [e]; exact g1) (by rw [e]; exact g2) hyU (by rw [et]; exact hn)
  rw [et] at this
  exact this
theorem rnd_skip {ps : List (ByteArray × ByteArray)} {l : List RBd} {n : Nat} {hv nx : List (List Pol)} {j : Nat} (h : Sol.Rnd ps (l.map toB) (uni l) n hv nx j) (hj : j < l.length) (hd : l[j].dst = -1) : Sol.Rnd ps (l.map toB) (uni l) n hv nx (j + 1) :=
  h.skip (by simpa using hj) (by simpa [toB] using hd)
theorem getD_at {hv : List (List Pol)} {k : Nat} (h : k < hv.length) : hv.getD k [] = hv[k] := by simp [List.getD, h]
theorem hs_go {ls : List ByteArray} {ps : List (ByteArray × ByteArray)} {a b : List (List Pol)} {k : Nat} (hr : Act.Right ls ps) (ha : ∀ z ∈ a, LbOK ls z) (hb : ∀ z ∈ b, LbOK ls z) (h1 : k < a.length) (h2 : k < b.length) : Lab.flowsB ls ps a[k] b[k] = true ↔ Sol.go ps (Sol.hs a k) (Sol.hs b k) := by
  rw [Lab.flows_iff hr (ha _ (List.getElem_mem h1)).of (hb _ (List.getElem_mem h2)).of, ← Sol.go_mayGo]
  unfold Sol.hs
  rw [getD_at h1, getD_at h2]
/- What a round begins with. -/
structure RoundSt (w wr : World) (ls : List ByteArray) (ps : List (ByteArray × ByteArray)) (l : List RBd) (n : Nat) (ao : Option Addr) (B : Nat) (L : List LV) (ag : Bool) (gk : Nat) : Prop where
  bel : Below w.heap.size w wr
  hv : HvSt wr n ao B L
  ok : ∀ y ∈ L, LbOK ls y.1
  low : Sol.Below ps (l.map toB) (Sol.hs (L.map (·.1)))
  inU : ∀ k p, Sol.hs (L.map (·.1)) k p → p ∈ uni l
  more : ag = true → 2 * (n * (uni l).length - Sol.sizes ps (uni l) n (Sol.hs (L.map (·.1)))) + 1 ≤ gk
  done : ag = false → Sol.Least ps (l.map toB) (Sol.hs (L.map (·.1)))
theorem map_ok {ls : List ByteArray} {L : List LV} (h : ∀ y ∈ L, LbOK ls y.1) : ∀ z ∈ L.map (·.1), LbOK ls z := fun z hz => by
  obtain ⟨y, hy, rfl⟩ := List.mem_map.1 hz
  exact h y hy
theorem small_ok {ls : List ByteArray} {ps : List (ByteArray × ByteArray)} {L : List LV} (h0 : checkF ls ps = 0) (h : ∀ y ∈ L, LbOK ls y.1) : ∀ y ∈ L, ∀ p ∈ y.1, SmallP p := fun y hy => smallP_of h0 (h y hy).of (h y hy).six
/- What a round holds behind its first j bounds. -/
structure MidSt (wq wx : World) (ls : List ByteArray) (ps : List (ByteArray × ByteArray)) (l : List RBd) (n : Nat) (ao : Option Addr) (B : Nat) (L L2 : List LV) (j : Nat) : Prop where
  nx : NxSt wq wx n ao B L2
  ok : ∀ y ∈ L2, LbOK ls y.1
  rnd : Sol.Rnd ps (l.map toB) (uni l) n (L.map (·.1)) (L2.map (·.1)) j
/- Whether anything is new among the first k labels. -/
def NewSt (ps : List (ByteArray × ByteArray)) (L L2 : List LV) (n k : Nat) (ag : Bool) : Prop := (ag = false → ∀ q, q < k → Sol.go ps (Sol.hs (L2.map (·.1)) q) (Sol.hs (L.map (·.1)) q)) ∧ (ag = true → ∃ q, q < n ∧ ¬ Sol.go ps (Sol.hs (L2.map (·.1)) q) (Sol.hs (L.map (·.1)) q))
/- What Brings, Concat and NormalOf leave. -/
structure BrP (wy w2 : World) (ls : List ByteArray) (ps : List (ByteArray × ByteArray)) (hv : List (List Pol)) (x : RBd) (yo : Option Addr) (yn yc : Nat) (y : List Pol) : Prop where
  bel : Below wy.heap.size wy w2
  norm : Lab.Norm blt plt ps (leftF ls ps (bringL hv x) x.by_) y
  ok : LbOK ls y
  len : yn = y.length
  row : ∃ yb yf, Pols w2 yo yb yf y
structure CcP (wy w3 : World) (x y : List Pol) (zo : Option Addr) (zn : Nat) : Prop where
  bel : Below wy.heap.size wy w3
  len : zn = (x ++ y).length
  row : ∃ zb zf, Pols w3 zo zb zf (x ++ y)
structure NnP (wy w4 : World) (B : Nat) (ls : List ByteArray) (ps : List (ByteArray × ByteArray)) (x y nn : List Pol) (u : Value) : Prop where
  bel : Below wy.heap.size wy w4
  norm : Lab.Norm blt plt ps (x ++ y) nn
  ok : LbOK ls nn
  off : OffLb w4 (some B) (nn, u)
theorem brP_of {wy w2 : World} {base : Nat} {ls : List ByteArray} {ps : List (ByteArray × ByteArray)} {hv : List (List Pol)} {x : RBd} {v : Value} {y : List Pol} (h6 : ls.length ≤ 6) (h1 : LbOK ls x.lab) (h2 : ∀ z ∈ hv, LbOK ls z) (hb : Below wy.heap.size wy w2) (hn : Lab.Norm blt plt ps (leftF ls ps (bringL hv x) x.by_) y) (hl : LabNew w2 base v y) : ∃ yo yn yc, v = .slice yo yn yc ∧ BrP wy w2 ls ps hv x yo yn yc y := by
  obtain ⟨k1, k2⟩ := bringL_ok h1 h2
  obtain ⟨q1, q2, q3, _⟩ := norm_ok h6 (fun p hp => k1 p (List.mem_filter.1 hp).1) (fun p hp => k2 p (List.mem_filter.1 hp).1) hn
  obtain ⟨yo, yb, yf, yc, e, hg⟩ := good_new hl q1 (by omega) q3
  exact ⟨yo, y.length, yc, e, hb, hn, ⟨q1, by omega, q3⟩, rfl, yb, yf, hg.pols⟩
theorem ccR (wy : World) (xo yo : Option Addr) (xb xf xn xc yn yc : Nat) (ls : List ByteArray) (ps : List (ByteArray × ByteArray)) (hv : List (List Pol)) (x : RBd) (xl y : List Pol) (w2 : World) (hx : LabAt wy xo xb xf xn xc xl) (hxk : LbOK ls xl) (hb : BrP wy w2 ls ps hv x yo yn yc y) :
    Calls Tryz.prog 27 #[.slice (some ⟨w2.heap.size, 0, none⟩) 2 2] (w2.alloc (.cells #[.slice xo xn xc, .slice yo yn yc] 34)) fun e w3 => ∃ zo zn zc, e = .returned (.slice zo zn zc) ∧ CcP wy w3 xl y zo zn := by
  obtain ⟨yb, yf, hyp⟩ := hb.row
  have hba : Below w2.heap.size w2 (w2.alloc (.cells #[.slice xo xn xc, .slice yo yn yc] 34)) := (Below.refl _ _).alloc (Nat.le_refl _) _
  have hk : (w2.alloc (.cells #[.slice xo xn xc, .slice yo yn yc] 34)).heap[w2.heap.size]? = some (.cells #[.slice xo xn xc, .slice yo yn yc] 34 (0, 0)) := heap_at_alloc _ _ _ rfl
  have hbw : Below wy.heap.size wy (w2.alloc (.cells #[.slice xo xn xc, .slice yo yn yc] 34)) := hb.bel.trans (hba.mono hb.bel.size)
  obtain ⟨P, hP, hPR⟩ := prow_of (hx.pols.later hbw)
  obtain ⟨Q, hQ, hQR⟩ := prow_of (hyp.later hba)
  have eP : P.length = xl.length := by rw [← hP, List.length_map]
  have eQ : Q.length = y.length := by rw [← hQ, List.length_map]
  have l1 := hxk.few
  have l2 := hb.ok.few
  have l3 := hx.ln
  have l4 := hb.len
  refine (concatN w2.heap.size xo yo xb xf yb yf xn yn xc yc P Q _ (by omega) (by omega) (by omega) (by rw [cell_blk hk]; rfl) (by rw [cell_blk hk]; rfl) (lt_of_block hk) hPR hQR).mono ?_
  rintro e w3 ⟨v, rfl, hown, hb3⟩
  obtain ⟨zo, zc, hv⟩ := slice_of hown
  subst hv
  have hmap : (P ++ Q).map (·.1) = xl ++ y := by rw [List.map_append, hP, hQ]
  obtain ⟨zb, zf, hz⟩ := pols_own (O := P ++ Q) rfl hown (fun z hz => by
    rcases List.mem_append.1 hz with hz | hz
    · exact (hPR.rd z hz).later hb3
    · exact (hQR.rd z hz).later hb3)
  rw [hmap] at hz
  exact ⟨zo, _, zc, rfl, hbw.trans (hb3.mono hbw.size), by rw [← hmap, List.length_map], zb, zf, hz⟩
theorem nnR (wy : World) (po zo : Option Addr) (b off m d zn zc B : Nat) (ls : List ByteArray) (ps : List (ByteArray × ByteArray)) (xl y : List Pol) (w3 : World) (h0 : checkF ls ps = 0) (hp : Pairs wy po b off m ps) (hB : B < wy.heap.size) (hx : LbOK ls xl) (hy : LbOK ls y) (hc : CcP wy w3 xl y zo zn) :
    Calls Tryz.prog 14 #[.slice po m d, .slice zo zn zc] w3 fun e w4 => ∃ uo un uc nn, e = .returned (.slice uo un uc) ∧ NnP wy w4 B ls ps xl y nn (.slice uo un uc) := by
  obtain ⟨h66, _, hr, hnm⟩ := right_of h0
  obtain ⟨zb, zf, hz⟩ := hc.row
  have l1 := hx.few
  have l2 := hy.few
  have l3 := hc.len
  rw [List.length_append] at l3
  have ho : Lab.OfL ls (xl ++ y) := fun p hp => (List.mem_append.1 hp).elim (hx.of p) (hy.of p)
  have hs : ∀ p ∈ xl ++ y, p.2.length ≤ 6 := fun p hp => (List.mem_append.1 hp).elim (hx.six p) (hy.six p)
  refine (normalOfN po zo b off m d zb zf zn zc ls ps (xl ++ y) w3 (hp.later hc.bel) hr h66 hc.len (by omega) hz ho hnm hs).mono ?_
  rintro e w4 ⟨v, nn, rfl, hn, hl, hb4⟩
  obtain ⟨q1, q2, q3, _⟩ := norm_ok h66 ho hs hn
  have hoff := OffLb.of_new (g := some B) hl (fun k e => by injection e with e; have := hc.bel.size; omega)
  obtain ⟨uo, uc, e⟩ := hoff.form
  simp only at e
  subst e
  exact ⟨uo, _, uc, nn, rfl, hc.bel.trans (hb4.mono hc.bel.size), hn, ⟨q1, by omega, q3⟩, hoff⟩

set_option maxRecDepth 100000 in
set_option maxHeartbeats 16000000 in
theorem leastR (po lo : Option Addr) (b off m d n lb loff ln lc : Nat) (ls : List ByteArray) (ps : List (ByteArray × ByteArray)) (l : List RBd) (w : World) (hp : Pairs w po b off m ps) (h0 : checkF ls ps = 0) (hn : n ≤ 400) (hl : Bds w lo lb loff l) (hln : ln = l.length) (hlm : ln ≤ 400) (hbd : ∀ x ∈ l, BdOK ls n x) :
    Calls Tryz.prog 8 #[.slice po m d, .int .i64 (n : Int), .slice lo ln lc] w fun e w' => ∃ (ao : Option Addr) (cap B : Nat) (L : List LV), e = .returned (.slice ao n cap) ∧ HvSt w' n ao B L ∧ (∀ y ∈ L, LbOK ls y.1) ∧ Sol.Least ps (l.map toB) (Sol.hs (L.map (·.1))) ∧ Below w.heap.size w w' := by
  obtain ⟨h66, _, hr, hnm⟩ := right_of h0
  have HP : Hid (Pairs w po b off m ps) := hp
  have HZ : Hid (checkF ls ps = 0) := h0
  have HR : Hid (Act.Right ls ps) := hr
  have HSIX : Hid (ls.length ≤ 6) := h66
  have HNM : Hid (∀ s ∈ ls, Lex.nameF s.data.toList = true) := hnm
  have HL : Hid (Bds w lo lb loff l) := hl
  have HLN : Hid (ln = l.length) := hln
  have HBD : Hid (∀ x ∈ l, BdOK ls n x) := hbd
  obtain ⟨MC, hmk, hMC⟩ := made_lab n w hn
  obtain ⟨wz, hwz⟩ : ∃ wz, wz = w.alloc (.cells MC 34) := ⟨_, rfl⟩
  have HWZ : Hid (wz = w.alloc (.cells MC 34)) := hwz
  have HS0 : Hid (RoundSt w wz ls ps l n (some ⟨w.heap.size, 0, none⟩) w.heap.size (List.replicate n ([], .slice none 0 0)) true (2 * (n * (uni l).length) + 1)) := by
    have e : (List.replicate n (([], .slice none 0 0) : LV)).map (·.1) = List.replicate n [] := by simp
    refine ⟨by rw [hwz]; exact (Below.refl _ _).alloc (Nat.le_refl _) _, by rw [hwz]; exact made_hv hMC, fun y hy => ?_, ?_, ?_, fun _ => by omega, fun h => by cases h⟩
    · obtain ⟨_, rfl⟩ := List.mem_replicate.1 hy
      exact ⟨fun p hp => (by cases hp), Nat.zero_le _, fun p hp => (by cases hp)⟩
    · rw [e]
      intro h' _ k q hq
      exact absurd hq (Sol.hs_none n k q)
    · rw [e]
      intro k p hp
      exact absurd hp (Sol.hs_none n k p)
  clear hp h0 hl hln hbd h66 hr hnm hMC hwz
  go_enter Tryz.func8, Tryz.ntmps8
  go_wp2
  rw [← HWZ.out]
  clear HWZ hmk
  go_loopg [7, 8] (2 * (n * (uni l).length) + 1) (fun gk v7 v8 wr => ∃ (ag : Bool) (ao : Option Addr) (cap B : Nat) (L : List LV), v7 = .slice ao n cap ∧ v8 = .bool ag ∧ Hid (RoundSt w wr ls ps l n ao B L ag gk))
  case atStart => exact ⟨true, _, n, _, _, rfl, rfl, HS0⟩
  case round =>
    clear HS0
    obtain ⟨ag, ao, cap, B, L, rfl, rfl, HS⟩ := hrel
    cases ag with
    | false =>
      have HF : Hid (HvSt wr n ao B L ∧ (∀ y ∈ L, LbOK ls y.1) ∧ Sol.Least ps (l.map toB) (Sol.hs (L.map (·.1))) ∧ Below w.heap.size w wr) := ⟨HS.out.hv, HS.out.ok, HS.out.done rfl, HS.out.bel⟩
      clear HS
      go_wp2
      go_ret
      exact ⟨ao, cap, B, L, rfl, HF.out⟩
    | true =>
      have hcl := cloneHv n ao B cap L wr HS.out.hv hn
      have HGK : Hid (2 * (n * (uni l).length - Sol.sizes ps (uni l) n (Sol.hs (L.map (·.1)))) + 1 ≤ gk) := HS.out.more rfl
      go_wp2_with fail
      refine hcl.mono ?_
      rintro e w1 ⟨ao2, cap2, B2, rfl, hnx⟩
      have HM0 : Hid (MidSt wr w1 ls ps l n ao2 B2 L L 0) := ⟨hnx, HS.out.ok, Sol.Rnd.start (by rw [List.length_map]; exact HS.out.hv.len) HS.out.low HS.out.inU⟩
      clear hcl hnx
      obtain ⟨wq, hwq⟩ : ∃ wq, wq = wr := ⟨wr, rfl⟩
      subst hwq
      go_wp2
      go_loopw [20] (fun i wx => ∃ j : Nat, j ≤ ln ∧ i = .int .i64 j ∧ Hid (∃ L2, MidSt wq wx ls ps l n ao2 B2 L L2 j)) (fun i _ => ln - (intOf i).toNat)
      case atStart => exact ⟨0, Nat.zero_le _, rfl, L, HM0.out⟩
      case round =>
        clear HM0
        obtain ⟨j, hj, rfl, HM⟩ := hrel
        obtain ⟨L2, hmid⟩ := HM.out
        have HMD : Hid (MidSt wq wr ls ps l n ao2 B2 L L2 j) := hmid
        have HBW : Hid (Below w.heap.size w wr) := HS.out.bel.trans (hmid.nx.bel.mono HS.out.bel.size)
        clear HM hmid
        by_cases hlt : j < ln
        · have hjl : j < l.length := by have := HLN.out; omega
          have hL := HL.out.later HBW.out
          have hlo := hL.adr (by omega)
          have hX := hL.at' j hjl
          have hbd := HBD.out _ (List.getElem_mem hjl)
          have hxl := List.getElem_mem hjl
          have hsk := fun h => rnd_skip HMD.out.rnd hjl h
          have hstep := fun t y nn h1 h2 h3 h4 => rnd_step (t := t) (y := y) (nn := nn) HR.out HMD.out.rnd HS.out.low HS.out.inU (map_ok HS.out.ok) hjl hbd h1 h2 h3 h4
          obtain ⟨x, hx⟩ : ∃ x, x = l[j] := ⟨_, rfl⟩
          rw [← hx] at hX hbd hxl hsk hstep
          have HSK : Hid (x.dst = -1 → Sol.Rnd ps (l.map toB) (uni l) n (L.map (·.1)) (L2.map (·.1)) (j + 1)) := hsk
          have HSTEP : Hid (∀ (t : Nat) (y nn : List Pol), x.dst = (t : Int) → t < n → Lab.Norm blt plt ps (leftF ls ps (bringL (L.map (·.1)) x) x.by_) y → Lab.Norm blt plt ps ((L2.map (·.1)).getD t [] ++ y) nn → Sol.Rnd ps (l.map toB) (uni l) n (L.map (·.1)) ((L2.map (·.1)).set t nn) (j + 1)) := hstep
          obtain ⟨v0, f0, so, sb, soff, sc, hv0, hsl, hsi⟩ := hX.c0
          obtain ⟨v1, f1, po1, pb1, pf1, pn1, pc1, hv1, hl1⟩ := hX.c1
          have f2 := hX.c2
          obtain ⟨v3, f3, po3, pb3, pf3, pn3, pc3, hv3, hl3⟩ := hX.c3
          have f4 := hX.c4
          obtain ⟨v5, f5, ro, rb, roff, rc, hv5, hr1, hr2, hrs⟩ := hX.c5
          subst hv0 hv1 hv3 hv5
          obtain ⟨sn, hsn⟩ : ∃ sn, sn = x.src.length := ⟨_, rfl⟩
          obtain ⟨rn, hrn⟩ : ∃ rn, rn = x.by_.length := ⟨_, rfl⟩
          rw [← hsn] at f0 hsl
          rw [← hrn] at f5 hr1
          obtain ⟨x2, hx2⟩ : ∃ x2, x2 = x.dst := ⟨_, rfl⟩
          obtain ⟨x4, hx4⟩ : ∃ x4, x4 = x.pos := ⟨_, rfl⟩
          rw [← hx2] at f2
          rw [← hx4] at f4
          have HX2 : Hid (x2 = x.dst) := hx2
          obtain ⟨wy, hwy⟩ : ∃ wy, wy = wr.alloc (.cells #[.slice so sn sc, .slice po1 pn1 pc1, .int .i64 x2, .slice po3 pn3 pc3, .int .i64 x4, .slice ro rn rc] 60) := ⟨_, rfl⟩
          have hby : Below wr.heap.size wr wy := by rw [hwy]; exact (Below.refl _ _).alloc (Nat.le_refl _) _
          have HBY : Hid (Below wr.heap.size wr wy) := hby
          have HKB : Hid (wy.heap[wr.heap.size]? = some (.cells #[.slice so sn sc, .slice po1 pn1 pc1, .int .i64 x2, .slice po3 pn3 pc3, .int .i64 x4, .slice ro rn rc] 60 (0, 0))) := by show _ = _; rw [hwy]; exact heap_at_alloc _ _ _ rfl
          have HNY : Hid (NxSt wq wy n ao2 B2 L2) := HMD.out.nx.later hby
          have HWY : Hid (wy = wr.alloc (.cells #[.slice so sn sc, .slice po1 pn1 pc1, .int .i64 x2, .slice po3 pn3 pc3, .int .i64 x4, .slice ro rn rc] 60)) := hwy
          by_cases hd : x2 = -1
          · have d0 : decide (0 ≤ x2) = false := by simp; omega
            have HF : Hid (∃ L2, MidSt wq wy ls ps l n ao2 B2 L L2 (j + 1)) := ⟨L2, HNY.out, HMD.out.ok, HSK.out (by rw [← HX2.out]; exact hd)⟩
            clear hL hX hx hsn hrn hsi hl1 hl3 hrs hby hwy hbd hx2 hx4 hsl hr1 hr2 hd hsk hstep
            subst hlo
            go_wp2
            rw [← HWY.out]
            go_roundw
            case rel => exact ⟨j + 1, by omega, by go_num, HF⟩
            case measure => simp [intOf]; omega
          · obtain ⟨t, ht, htl⟩ : ∃ t : Nat, x2 = (t : Int) ∧ t < n := by
              rcases hbd.good.dst with h | h
              · exact absurd (HX2.out.trans h) hd
              · rw [HX2.out]; exact h
            subst ht
            have d0 : decide ((0 : Int) ≤ (t : Int)) = true := by simp
            have htL : t < L2.length := by rw [HNY.out.len]; exact htl
            have hao := HNY.out.adr (by omega)
            have cx := HNY.out.cell t htL
            have fx := HNY.out.fre (by omega) t
            have lB := HNY.out.lt (by omega)
            have hcr := HMD.out.nx.cell t htL
            obtain ⟨xo, xc, hxf⟩ := (HNY.out.off _ (List.getElem_mem htL)).form
            have hxk := HMD.out.ok _ (List.getElem_mem htL)
            have hxv := (HNY.out.off _ (List.getElem_mem htL)).val (small_ok HZ.out HMD.out.ok _ (List.getElem_mem htL))
            have hgd : (L2.map (·.1)).getD t [] = L2[t].1 := by rw [getD_at (by simpa using htL)]; simp
            obtain ⟨xl, hxl0⟩ : ∃ xl, xl = L2[t].1 := ⟨_, rfl⟩
            rw [hxf] at cx hxv hcr
            rw [← hxl0] at cx hxk hxv hgd hcr
            have HGD : Hid ((L2.map (·.1)).getD t [] = xl) := hgd
            obtain ⟨xo', xb, xf, xn', xc', hxe, hxa⟩ := hxv
            injection hxe with hx1 hx2' hx3
            subst hx1 hx3
            rw [hx2'] at cx hcr
            have HXA : Hid (LabAt wy xo xb xf xn' xc xl) := hxa
            have HXK : Hid (LbOK ls xl) := hxk
            obtain ⟨P, hPdef⟩ : ∃ P, P = wr.heap.size := ⟨_, rfl⟩
            have hkk := HKB.out
            rw [← hPdef] at hkk
            have p0 : wy.cell? ⟨P, 0, none⟩ = some (.slice so sn sc) := by simp [World.cell?, hkk]
            have p1 : wy.cell? ⟨P, 1, none⟩ = some (.slice po1 pn1 pc1) := by simp [World.cell?, hkk]
            have p2 : wy.cell? ⟨P, 2, none⟩ = some (.int .i64 (t : Int)) := by simp [World.cell?, hkk]
            have p3 : wy.cell? ⟨P, 3, none⟩ = some (.slice po3 pn3 pc3) := by simp [World.cell?, hkk]
            have p4 : wy.cell? ⟨P, 4, none⟩ = some (.int .i64 x4) := by simp [World.cell?, hkk]
            have p5 : wy.cell? ⟨P, 5, none⟩ = some (.slice ro rn rc) := by simp [World.cell?, hkk]
            have lP : P < wy.heap.size := lt_of_block hkk
            have HPD : Hid (P = wr.heap.size) := hPdef
            have HPB : Hid (B2 ≠ P) := by show B2 ≠ P; rw [hPdef]; have := HMD.out.nx.lt (by omega); omega
            have hmx : Tryz.prog.follows .mixedOrders = true := by kernel_rfl
            have hbq : Below wq.heap.size wq wy.drew := HNY.out.bel.trans ((below_dq wy).mono HNY.out.bel.size)
            have hbq' : Below w.heap.size w wy.drew := HS.out.bel.trans (hbq.mono HS.out.bel.size)
            have hbr := bringsR po ao so po1 po3 ro b off m d B 0 n cap sb soff sn sc pb1 pf1 pn1 pc1 pn3 pc3 rb roff rn rc (t : Int) x4 ls ps (L.map (·.1)) x wy.drew (HP.out.later hbq') HR.out HSIX.out HNM.out ((HS.out.hv.lbs (small_ok HZ.out HS.out.ok)).later hbq) (by rw [List.length_map]; exact HS.out.hv.len.symm) (map_ok HS.out.ok) hsn ((hsi.later hby).later (below_dq wy)) (by rw [hsn]; exact hbd.good.few) (by rw [List.length_map, HS.out.hv.len]; exact hbd.good.src) ((hl1.later hby).later (below_dq wy)) hbd.lab hrn (by rw [hrn]; exact hbd.good.by6) ((hrs.later hby).later (below_dq wy)) hbd.good.by_
            have HBR : Hid (Calls Tryz.prog 28 #[.slice po m d, .slice ao n cap, .agg #[.slice so sn sc, .slice po1 pn1 pc1, .int .i64 (t : Int), .slice po3 pn3 pc3, .int .i64 x4, .slice ro rn rc]] wy.drew fun e w2 => ∃ yo yn yc y, e = .returned (.slice yo yn yc) ∧ BrP wy w2 ls ps (L.map (·.1)) x yo yn yc y) := by
              refine Calls.mono hbr ?_
              rintro e w2 ⟨v, y, rfl, h1, h2, h3⟩
              obtain ⟨yo, yn, yc, e, h4⟩ := brP_of HSIX.out hbd.lab (map_ok HS.out.ok) ((below_dq wy).trans (h3.mono (below_dq wy).size)) h1 h2
              exact ⟨yo, yn, yc, y, by rw [e], h4⟩
            have HCC : Hid (∀ w2 yo yn yc y, BrP wy w2 ls ps (L.map (·.1)) x yo yn yc y → Calls Tryz.prog 27 #[.slice (some ⟨w2.heap.size, 0, none⟩) 2 2] (w2.alloc (.cells #[.slice xo xn' xc, .slice yo yn yc] 34)) fun e w3 => ∃ zo zn zc, e = .returned (.slice zo zn zc) ∧ CcP wy w3 xl y zo zn) := fun w2 yo yn yc y h => ccR wy xo yo xb xf xn' xc yn yc ls ps _ x xl y w2 HXA.out HXK.out h
            have HNN : Hid (∀ w3 zo zn zc y, LbOK ls y → CcP wy w3 xl y zo zn → Calls Tryz.prog 14 #[.slice po m d, .slice zo zn zc] w3 fun e w4 => ∃ uo un uc nn, e = .returned (.slice uo un uc) ∧ NnP wy w4 B2 ls ps xl y nn (.slice uo un uc)) := fun w3 zo zn zc y h1 h2 => nnR wy po zo b off m d zn zc B2 ls ps xl y w3 HZ.out (HP.out.later (HBW.out.trans (HBY.out.mono HBW.out.size))) lB HXK.out h1 h2
            have HFIN : Hid (∀ w4 y nn u, Lab.Norm blt plt ps (leftF ls ps (bringL (L.map (·.1)) x) x.by_) y → NnP wy w4 B2 ls ps xl y nn u → ∃ L2, MidSt wq (w4.setCell ⟨B2, t, none⟩ u) ls ps l n ao2 B2 L L2 (j + 1)) := fun w4 y nn u h1 h2 => by
              refine ⟨L2.set t (nn, u), (HNY.out.later h2.bel).put htl h2.off, fun z hz => ?_, ?_⟩
              · rcases List.mem_or_eq_of_mem_set hz with hz | rfl
                · exact HMD.out.ok z hz
                · exact h2.ok
              · have := HSTEP.out t y nn HX2.out.symm htl h1 (by rw [HGD.out]; exact h2.norm)
                rw [List.map_set]
                exact this
            have HFZ : Hid (∀ w4, Below wy.heap.size wy w4 → w4.frozen? ⟨B2, t, none⟩ = false) := fun w4 h => by
              have h9 : wy.frozen? ⟨B2, t, none⟩ = false := fx
              unfold World.frozen? at h9 ⊢
              rw [h.block B2 lB]
              exact h9
            clear hL hX hx hsn hrn hsi hl1 hl3 hrs hby hwy hbd hx2 hx4 hsl hr1 hr2 hd hsk hstep hbr hbq hbq' hxa hxk hgd hkk hPdef hxl0 hxf hx2' htL HXA HXK fx HSTEP HSK HMD
            subst hlo
            subst hao
            go_wp2
            rw [← HWY.out, ← HPD.out]
            clear HWY f0 f1 f2 f3 f4 f5 hcr
            refine wp_region_held_drew (S := fun W' => W'.cell? ⟨P, 0, none⟩ = some (.slice so sn sc) ∧ W'.cell? ⟨P, 1, none⟩ = some (.slice po1 pn1 pc1) ∧ W'.cell? ⟨P, 2, none⟩ = some (.int .i64 (t : Int)) ∧ W'.cell? ⟨P, 3, none⟩ = some (.slice po3 pn3 pc3) ∧ W'.cell? ⟨P, 4, none⟩ = some (.int .i64 x4) ∧ W'.cell? ⟨P, 5, none⟩ = some (.slice ro rn rc)) hmx ⟨p0, p1, p2, p3, p4, p5⟩ ?_
            intro hHeld
            refine wpAnyH_take (i := 0) (v := .slice (some ⟨B2, 0, none⟩) n cap2) rfl (by kernel_rfl) (by kernel_rfl) (by kernel_rfl) (fun _ _ _ h => h) (Or.inl ⟨by rfl, fun W' hSw => by dsimp only at hSw; go_simp⟩) hHeld ?_
            simp only [Act.put]
            refine wpAnyH_take (i := 1) (v := .pointer (some ⟨P, 2, none⟩)) rfl (by kernel_rfl) (by kernel_rfl) (by kernel_rfl) (fun _ _ _ h => h) (Or.inl ⟨by rfl, fun W' hSw => by dsimp only at hSw; go_simp⟩) hHeld ?_
            simp only [Act.put]
            refine wpAnyH_take (i := 2) (v := .int .i64 (t : Int)) rfl (by kernel_rfl) (by kernel_rfl) (by kernel_rfl) (fun _ _ _ h => h) (Or.inl ⟨by rfl, fun W' hSw => by dsimp only at hSw; go_simp⟩) hHeld ?_
            simp only [Act.put]
            refine wpAnyH_take (i := 3) (v := .slice po m d) rfl (by kernel_rfl) (by kernel_rfl) (by kernel_rfl) (fun _ _ _ h => h) (Or.inl ⟨by rfl, fun W' hSw => by dsimp only at hSw; go_simp⟩) hHeld ?_
            simp only [Act.put]
            refine wpAnyH_take (i := 4) (v := .slice (some ⟨B2, 0, none⟩) n cap2) rfl (by kernel_rfl) (by kernel_rfl) (by kernel_rfl) (fun _ _ _ h => h) (Or.inl ⟨by rfl, fun W' hSw => by dsimp only at hSw; go_simp⟩) hHeld ?_
            simp only [Act.put]
            refine wpAnyH_take (i := 5) (v := .pointer (some ⟨P, 2, none⟩)) rfl (by kernel_rfl) (by kernel_rfl) (by kernel_rfl) (fun _ _ _ h => h) (Or.inl ⟨by rfl, fun W' hSw => by dsimp only at hSw; go_simp⟩) hHeld ?_
            simp only [Act.put]
            refine wpAnyH_take (i := 6) (v := .int .i64 (t : Int)) rfl (by kernel_rfl) (by kernel_rfl) (by kernel_rfl) (fun _ _ _ h => h) (Or.inl ⟨by rfl, fun W' hSw => by dsimp only at hSw; go_simp⟩) hHeld ?_
            simp only [Act.put]
            refine wpAnyH_take (i := 7) (v := .pointer (some ⟨B2, t, none⟩)) rfl (by kernel_rfl) (by kernel_rfl) (by kernel_rfl) (fun _ _ _ h => h) (Or.inl ⟨by rfl, fun W' hSw => by dsimp only at hSw; go_simp⟩) hHeld ?_
            simp only [Act.put]
            refine wpAnyH_take (i := 9) (v := .slice po m d) rfl (by kernel_rfl) (by kernel_rfl) (by kernel_rfl) (fun _ _ _ h => h) (Or.inl ⟨by rfl, fun W' hSw => by dsimp only at hSw; go_simp⟩) hHeld ?_
            simp only [Act.put]
            refine wpAnyH_take (i := 10) (v := .slice ao n cap) rfl (by kernel_rfl) (by kernel_rfl) (by kernel_rfl) (fun _ _ _ h => h) (Or.inl ⟨by rfl, fun W' hSw => by dsimp only at hSw; go_simp⟩) hHeld ?_
            simp only [Act.put]
            refine wpAnyH_take (i := 11) (v := .agg #[.slice so sn sc, .slice po1 pn1 pc1, .int .i64 (t : Int), .slice po3 pn3 pc3, .int .i64 x4, .slice ro rn rc]) rfl (by kernel_rfl) (by kernel_rfl) (by kernel_rfl) (fun _ _ _ h => h) (Or.inl ⟨by rfl, fun W' hSw => by dsimp only at hSw; go_simp⟩) hHeld ?_
            simp only [Act.put]
            refine wpAnyH_ready (rs := [8, 12]) (by kernel_rfl) (by simp) ?_
            refine AllReadyH.cons rfl (fun K hK => ?_) (AllReadyH.cons rfl (fun K hK => ?_) AllReadyH.nil)
            · go_simp
              refine hK.out _ _ ⟨p0, p1, p2, p3, p4, p5⟩ ?_
              clear hK K
              intro hHeld
              try simp only [Act.put]
              refine wpAnyH_ready (rs := [12]) (by kernel_rfl) (by simp) ?_
              refine AllReadyH.cons rfl (fun K hK => ?_) AllReadyH.nil
              go_simp
              refine HBR.out.mono ?_
              rintro e w2 ⟨yo, yn, yc, y, rfl, hbp⟩
              have HBP : Hid (BrP wy w2 ls ps (L.map (·.1)) x yo yn yc y) := hbp
              have a0 := cell_below hbp.bel p0
              have a1 := cell_below hbp.bel p1
              have a2 := cell_below hbp.bel p2
              have a3 := cell_below hbp.bel p3
              have a4 := cell_below hbp.bel p4
              have a5 := cell_below hbp.bel p5
              have cxa := cell_below hbp.bel cx
              have qa := Nat.lt_of_lt_of_le lB hbp.bel.size
              have qb := Nat.lt_of_lt_of_le lP hbp.bel.size
              clear hbp hHeld
              refine hK.out _ _ ⟨a0, a1, a2, a3, a4, a5⟩ ?_
              clear hK K
              intro hHeld
              try simp only [Act.put]
              refine wpAnyH_ready (rs := [13]) (by kernel_rfl) (by simp) ?_
              refine AllReadyH.cons rfl (fun K hK => ?_) AllReadyH.nil
              go_simp
              obtain ⟨w5, hw5⟩ : ∃ w5, w5 = w2.alloc (.cells #[.slice xo xn' xc, .slice yo yn yc] 34) := ⟨_, rfl⟩
              rw [← hw5]
              have H25 : Hid (Below w2.heap.size w2 w5) := by show Below _ _ _; rw [hw5]; exact (Below.refl _ _).alloc (Nat.le_refl _) _
              have hcc := HCC.out w2 yo yn yc y HBP.out
              rw [← hw5] at hcc
              have b0 := cell_below H25.out a0
              have b1 := cell_below H25.out a1
              have b2 := cell_below H25.out a2
              have b3 := cell_below H25.out a3
              have b4 := cell_below H25.out a4
              have b5 := cell_below H25.out a5
              clear hw5 hHeld
              refine hK.out _ _ ⟨b0, b1, b2, b3, b4, b5⟩ ?_
              clear hK K
              intro hHeld
              try simp only [Act.put]
              refine wpAnyH_ready (rs := [14]) (by kernel_rfl) (by simp) ?_
              refine AllReadyH.cons rfl (fun K hK => ?_) AllReadyH.nil
              go_simp
              refine hcc.mono ?_
              rintro e w3 ⟨zo, zn, zc, rfl, hcp⟩
              have HCP : Hid (CcP wy w3 xl y zo zn) := hcp
              have c0 := cell_below hcp.bel p0
              have c1 := cell_below hcp.bel p1
              have c2 := cell_below hcp.bel p2
              have c3 := cell_below hcp.bel p3
              have c4 := cell_below hcp.bel p4
              have c5 := cell_below hcp.bel p5
              clear hcp hHeld hcc
              refine hK.out _ _ ⟨c0, c1, c2, c3, c4, c5⟩ ?_
              clear hK K
              intro hHeld
              try simp only [Act.put]
              refine wpAnyH_ready (rs := [15]) (by kernel_rfl) (by simp) ?_
              refine AllReadyH.cons rfl (fun K hK => ?_) AllReadyH.nil
              go_simp
              refine (HNN.out w3 zo zn zc y HBP.out.ok HCP.out).mono ?_
              rintro e w4 ⟨uo, un, uc, nn, rfl, hnp⟩
              have HNP : Hid (NnP wy w4 B2 ls ps xl y nn (.slice uo un uc)) := hnp
              have d0 := cell_below hnp.bel p0
              have d1 := cell_below hnp.bel p1
              have d2 := cell_below hnp.bel p2
              have d3 := cell_below hnp.bel p3
              have d4 := cell_below hnp.bel p4
              have d5 := cell_below hnp.bel p5
              have cxd := cell_below hnp.bel cx
              have qe := Nat.lt_of_lt_of_le lB hnp.bel.size
              have qf := Nat.lt_of_lt_of_le lP hnp.bel.size
              have qg := HFZ.out w4 hnp.bel
              clear hnp hHeld
              refine hK.out _ _ ⟨d0, d1, d2, d3, d4, d5⟩ ?_
              clear hK K
              intro hHeld
              try simp only [Act.put]
              refine wpAnyH_take (i := 16) (v := .pointer (some ⟨B2, t, none⟩)) rfl (by kernel_rfl) (by kernel_rfl) (by kernel_rfl) (fun _ _ _ h => h) (Or.inl ⟨by rfl, fun W' hSw => by dsimp only at hSw; go_simp⟩) hHeld ?_
              simp only [Act.put]
              refine wpAnyH_ready (rs := [17]) (by kernel_rfl) (by simp) ?_
              refine AllReadyH.cons rfl (fun K hK => ?_) AllReadyH.nil
              go_simp
              have HF : Hid (∃ L2, MidSt wq (w4.setCell ⟨B2, t, none⟩ (.slice uo un uc)) ls ps l n (some ⟨B2, 0, none⟩) B2 L L2 (j + 1)) := HFIN.out w4 y nn _ HBP.out.norm HNP.out
              have e0 := (World.cell?_setCell_far w4 ⟨B2, t, none⟩ ⟨P, 0, none⟩ (.slice uo un uc) HPB.out).trans d0
              have e1 := (World.cell?_setCell_far w4 ⟨B2, t, none⟩ ⟨P, 1, none⟩ (.slice uo un uc) HPB.out).trans d1
              have e2 := (World.cell?_setCell_far w4 ⟨B2, t, none⟩ ⟨P, 2, none⟩ (.slice uo un uc) HPB.out).trans d2
              have e3 := (World.cell?_setCell_far w4 ⟨B2, t, none⟩ ⟨P, 3, none⟩ (.slice uo un uc) HPB.out).trans d3
              have e4 := (World.cell?_setCell_far w4 ⟨B2, t, none⟩ ⟨P, 4, none⟩ (.slice uo un uc) HPB.out).trans d4
              have e5 := (World.cell?_setCell_far w4 ⟨B2, t, none⟩ ⟨P, 5, none⟩ (.slice uo un uc) HPB.out).trans d5
              obtain ⟨w6, hw6⟩ : ∃ w6, w6 = w4.setCell ⟨B2, t, none⟩ (.slice uo un uc) := ⟨_, rfl⟩
              rw [← hw6] at HF e0 e1 e2 e3 e4 e5 ⊢
              clear hw6 hHeld
              refine hK.out _ _ ⟨e0, e1, e2, e3, e4, e5⟩ ?_
              clear hK K
              intro hHeld
              refine wpAnyH_done (by kernel_rfl) ?_ _
              try simp only [Act.put]
              go_wp2_with fail
              go_roundw
              case rel => exact ⟨j + 1, by omega, by go_num, HF⟩
              case measure => simp [intOf]; omega
            · go_simp
              refine HBR.out.mono ?_
              rintro e w2 ⟨yo, yn, yc, y, rfl, hbp⟩
              have HBP : Hid (BrP wy w2 ls ps (L.map (·.1)) x yo yn yc y) := hbp
              have a0 := cell_below hbp.bel p0
              have a1 := cell_below hbp.bel p1
              have a2 := cell_below hbp.bel p2
              have a3 := cell_below hbp.bel p3
              have a4 := cell_below hbp.bel p4
              have a5 := cell_below hbp.bel p5
              have cxa := cell_below hbp.bel cx
              have qa := Nat.lt_of_lt_of_le lB hbp.bel.size
              have qb := Nat.lt_of_lt_of_le lP hbp.bel.size
              clear hbp hHeld
              refine hK.out _ _ ⟨a0, a1, a2, a3, a4, a5⟩ ?_
              clear hK K
              intro hHeld
              try simp only [Act.put]
              refine wpAnyH_ready (rs := [8]) (by kernel_rfl) (by simp) ?_
              refine AllReadyH.cons rfl (fun K hK => ?_) AllReadyH.nil
              go_simp
              refine hK.out _ _ ⟨a0, a1, a2, a3, a4, a5⟩ ?_
              clear hK K
              intro hHeld
              try simp only [Act.put]
              refine wpAnyH_ready (rs := [13]) (by kernel_rfl) (by simp) ?_
              refine AllReadyH.cons rfl (fun K hK => ?_) AllReadyH.nil
              go_simp
              obtain ⟨w5, hw5⟩ : ∃ w5, w5 = w2.alloc (.cells #[.slice xo xn' xc, .slice yo yn yc] 34) := ⟨_, rfl⟩
              rw [← hw5]
              have H25 : Hid (Below w2.heap.size w2 w5) := by show Below _ _ _; rw [hw5]; exact (Below.refl _ _).alloc (Nat.le_refl _) _
              have hcc := HCC.out w2 yo yn yc y HBP.out
              rw [← hw5] at hcc
              have b0 := cell_below H25.out a0
              have b1 := cell_below H25.out a1
              have b2 := cell_below H25.out a2
              have b3 := cell_below H25.out a3
              have b4 := cell_below H25.out a4
              have b5 := cell_below H25.out a5
              clear hw5 hHeld
              refine hK.out _ _ ⟨b0, b1, b2, b3, b4, b5⟩ ?_
              clear hK K
              intro hHeld
              try simp only [Act.put]
              refine wpAnyH_ready (rs := [14]) (by kernel_rfl) (by simp) ?_
              refine AllReadyH.cons rfl (fun K hK => ?_) AllReadyH.nil
              go_simp
              refine hcc.mono ?_
              rintro e w3 ⟨zo, zn, zc, rfl, hcp⟩
              have HCP : Hid (CcP wy w3 xl y zo zn) := hcp
              have c0 := cell_below hcp.bel p0
              have c1 := cell_below hcp.bel p1
              have c2 := cell_below hcp.bel p2
              have c3 := cell_below hcp.bel p3
              have c4 := cell_below hcp.bel p4
              have c5 := cell_below hcp.bel p5
              clear hcp hHeld hcc
              refine hK.out _ _ ⟨c0, c1, c2, c3, c4, c5⟩ ?_
              clear hK K
              intro hHeld
              try simp only [Act.put]
              refine wpAnyH_ready (rs := [15]) (by kernel_rfl) (by simp) ?_
              refine AllReadyH.cons rfl (fun K hK => ?_) AllReadyH.nil
              go_simp
              refine (HNN.out w3 zo zn zc y HBP.out.ok HCP.out).mono ?_
              rintro e w4 ⟨uo, un, uc, nn, rfl, hnp⟩
              have HNP : Hid (NnP wy w4 B2 ls ps xl y nn (.slice uo un uc)) := hnp
              have d0 := cell_below hnp.bel p0
              have d1 := cell_below hnp.bel p1
              have d2 := cell_below hnp.bel p2
              have d3 := cell_below hnp.bel p3
              have d4 := cell_below hnp.bel p4
              have d5 := cell_below hnp.bel p5
              have cxd := cell_below hnp.bel cx
              have qe := Nat.lt_of_lt_of_le lB hnp.bel.size
              have qf := Nat.lt_of_lt_of_le lP hnp.bel.size
              have qg := HFZ.out w4 hnp.bel
              clear hnp hHeld
              refine hK.out _ _ ⟨d0, d1, d2, d3, d4, d5⟩ ?_
              clear hK K
              intro hHeld
              try simp only [Act.put]
              refine wpAnyH_take (i := 16) (v := .pointer (some ⟨B2, t, none⟩)) rfl (by kernel_rfl) (by kernel_rfl) (by kernel_rfl) (fun _ _ _ h => h) (Or.inl ⟨by rfl, fun W' hSw => by dsimp only at hSw; go_simp⟩) hHeld ?_
              simp only [Act.put]
              refine wpAnyH_ready (rs := [17]) (by kernel_rfl) (by simp) ?_
              refine AllReadyH.cons rfl (fun K hK => ?_) AllReadyH.nil
              go_simp
              have HF : Hid (∃ L2, MidSt wq (w4.setCell ⟨B2, t, none⟩ (.slice uo un uc)) ls ps l n (some ⟨B2, 0, none⟩) B2 L L2 (j + 1)) := HFIN.out w4 y nn _ HBP.out.norm HNP.out
              have e0 := (World.cell?_setCell_far w4 ⟨B2, t, none⟩ ⟨P, 0, none⟩ (.slice uo un uc) HPB.out).trans d0
              have e1 := (World.cell?_setCell_far w4 ⟨B2, t, none⟩ ⟨P, 1, none⟩ (.slice uo un uc) HPB.out).trans d1
              have e2 := (World.cell?_setCell_far w4 ⟨B2, t, none⟩ ⟨P, 2, none⟩ (.slice uo un uc) HPB.out).trans d2
              have e3 := (World.cell?_setCell_far w4 ⟨B2, t, none⟩ ⟨P, 3, none⟩ (.slice uo un uc) HPB.out).trans d3
              have e4 := (World.cell?_setCell_far w4 ⟨B2, t, none⟩ ⟨P, 4, none⟩ (.slice uo un uc) HPB.out).trans d4
              have e5 := (World.cell?_setCell_far w4 ⟨B2, t, none⟩ ⟨P, 5, none⟩ (.slice uo un uc) HPB.out).trans d5
              obtain ⟨w6, hw6⟩ : ∃ w6, w6 = w4.setCell ⟨B2, t, none⟩ (.slice uo un uc) := ⟨_, rfl⟩
              rw [← hw6] at HF e0 e1 e2 e3 e4 e5 ⊢
              clear hw6 hHeld
              refine hK.out _ _ ⟨e0, e1, e2, e3, e4, e5⟩ ?_
              clear hK K
              intro hHeld
              refine wpAnyH_done (by kernel_rfl) ?_ _
              try simp only [Act.put]
              go_wp2_with fail
              go_roundw
              case rel => exact ⟨j + 1, by omega, by go_num, HF⟩
              case measure => simp [intOf]; omega
        · have hjn : j = l.length := by have := HLN.out; omega
          have HRN : Hid (Sol.Rnd ps (l.map toB) (uni l) n (L.map (·.1)) (L2.map (·.1)) (l.map toB).length) := by
            have h9 := HMD.out.rnd
            rw [hjn] at h9
            show Sol.Rnd _ _ _ _ _ _ _
            rw [List.length_map]
            exact h9
          have HNX : Hid (NxSt wq wr n ao2 B2 L2) := HMD.out.nx
          have HOK2 : Hid (∀ y ∈ L2, LbOK ls y.1) := HMD.out.ok
          clear hjn HMD
          obtain ⟨wv, hwv⟩ : ∃ wv, wv = wr := ⟨wr, rfl⟩
          subst hwv
          go_wp2
          go_loopw [8, 47] (fun v i wx => ∃ (k : Nat) (ag : Bool), k ≤ n ∧ i = .int .i64 k ∧ v = .bool ag ∧ Hid (NewSt ps L L2 n k ag) ∧ Hid (Below wv.heap.size wv wx)) (fun _ i _ => n - (intOf i).toNat)
          case atStart => exact ⟨0, false, Nat.zero_le _, rfl, rfl, ⟨fun _ q h => absurd h (by omega), fun h => by cases h⟩, Below.refl _ _⟩
          case round =>
            obtain ⟨k, ag, hk, rfl, rfl, HA, HB⟩ := hrel
            by_cases hlt3 : k < n
            · have hk1 : k < L2.length := by rw [HNX.out.len]; exact hlt3
              have hk2 : k < L.length := by rw [HS.out.hv.len]; exact hlt3
              have ha1 := HNX.out.adr (by omega)
              have ha2 := HS.out.hv.adr (by omega)
              have HBQ : Hid (Below wq.heap.size wq wr) := HNX.out.bel.trans (HB.out.mono HNX.out.bel.size)
              have HBA : Hid (Below w.heap.size w wr) := HS.out.bel.trans (HBQ.out.mono HS.out.bel.size)
              cases ag with
              | true =>
                have HA2 : Hid (NewSt ps L L2 n (k + 1) true) := ⟨fun h => (by cases h), fun h => HA.out.2 h⟩
                clear hk1 hk2 HA
                subst ha1
                subst ha2
                go_wp2
                go_quiet ((fail))
                go_wp2
                go_roundw
                case rel => exact ⟨k + 1, true, by omega, by go_num, rfl, HA2, ⟨HB.out.os, HB.out.tape, HB.out.output, HB.out.size, HB.out.block⟩⟩
                case measure => simp [intOf]; omega
              | false =>
                have hv1 := (HNX.out.hv.later HB.out).cell k hk1
                have hv2 := (HS.out.hv.later HBQ.out).cell k hk2
                have o1 := ((HNX.out.hv.later HB.out).off _ (List.getElem_mem hk1)).val (small_ok HZ.out HOK2.out _ (List.getElem_mem hk1))
                have o2 := ((HS.out.hv.later HBQ.out).off _ (List.getElem_mem hk2)).val (small_ok HZ.out HS.out.ok _ (List.getElem_mem hk2))
                obtain ⟨xo, xb, xf, xn, xc, e1, g1⟩ := o1
                obtain ⟨yo, yb, yf, yn, yc, e2, g2⟩ := o2
                rw [e1] at hv1
                rw [e2] at hv2
                have hfl := mayGoR po xo yo b off m d xb xf xn xc yb yf yn yc ls ps L2[k].1 L[k].1 wr.drew ((HP.out.later HBA.out).later (below_dq wr)) HR.out ((good_lab g1 (HOK2.out _ (List.getElem_mem hk1))).later (below_dq wr)) ((good_lab g2 (HS.out.ok _ (List.getElem_mem hk2))).later (below_dq wr))
                have hgo := hs_go (k := k) HR.out (map_ok HOK2.out) (map_ok HS.out.ok) (by simpa using hk1) (by simpa using hk2)
                rw [List.getElem_map, List.getElem_map] at hgo
                obtain ⟨tB, htB⟩ : ∃ tB, tB = Lab.flowsB ls ps L2[k].1 L[k].1 := ⟨_, rfl⟩
                rw [← htB] at hfl hgo
                have HA2 : Hid (NewSt ps L L2 n (k + 1) (!tB)) := by
                  refine ⟨fun h q hq => ?_, fun h => ?_⟩
                  · by_cases hqk : q < k
                    · exact HA.out.1 rfl q hqk
                    · have hqe : q = k := by omega
                      subst hqe
                      exact hgo.1 (by simpa using h)
                  · refine ⟨k, hlt3, fun h9 => ?_⟩
                    rw [hgo.2 h9] at h
                    cases h
                have HFL : Hid (Calls Tryz.prog 12 #[.slice po m d, .slice xo xn xc, .slice yo yn yc] wr.drew fun e w' => e = .returned (.bool tB) ∧ Below wr.drew.heap.size wr.drew w') := hfl
                clear hk1 hk2 HA g1 g2 e1 e2 hfl hgo htB
                subst ha1
                subst ha2
                go_wp2
                go_region_held3 (fun w' => w'.cell? ⟨B2, k, none⟩ = some (.slice xo xn xc) ∧ w'.cell? ⟨B, k, none⟩ = some (.slice yo yn yc)) (go_keep)
                  (first
                    | (go_at_call 12; refine HFL.out.mono ?_; rintro e w7 ⟨rfl, hb7⟩; have HB7 : Hid (Below wv.heap.size wv w7) := HB.out.trans (((below_dq wr).trans hb7).mono HB.out.size); have y1 := cell_below (hb7) hv1; have y2 := cell_below hb7 hv2; clear hb7))
                all_goals go_wp2
                go_roundw
                case rel => exact ⟨k + 1, !tB, by omega, by go_num, rfl, HA2, HB7⟩
                case measure => simp [intOf]; omega
            · have hkn : k = n := by omega
              subst hkn
              have HBQ : Hid (Below wq.heap.size wq wr) := HNX.out.bel.trans (HB.out.mono HNX.out.bel.size)
              have HBA : Hid (Below w.heap.size w wr) := HS.out.bel.trans (HBQ.out.mono HS.out.bel.size)
              cases ag with
              | false =>
                have HF : Hid (RoundSt w wr ls ps l k ao B L false 0) := by
                  refine ⟨HBA.out, HS.out.hv.later HBQ.out, HS.out.ok, HS.out.low, HS.out.inU, fun h => (by cases h), fun _ => ?_⟩
                  refine Sol.Rnd.least HRN.out HS.out.low (fun bb hb hd => ?_) (fun q hq => HA.out.1 rfl q hq)
                  obtain ⟨x, hx, rfl⟩ := List.mem_map.1 hb
                  rcases (HBD.out x hx).good.dst with h | ⟨d9, h, h'⟩
                  · exact absurd h hd
                  · show x.dst.toNat < k
                    rw [h]
                    simpa using h'
                have hgk : 0 < gk := by have := HGK.out; omega
                clear HA
                go_wp2
                go_roundg 0
                case measure => exact hgk
                case rel => exact ⟨false, ao, cap, B, L, rfl, rfl, HF⟩
              | true =>
                have HF : Hid (RoundSt w wr ls ps l k ao2 B2 L2 true (2 * (k * (uni l).length - Sol.sizes ps (uni l) k (Sol.hs (L2.map (·.1)))) + 1)) :=
                  ⟨HBA.out, (HNX.out.hv).later HB.out, HOK2.out, HRN.out.low, HRN.out.inU, fun _ => Nat.le_refl _, fun h => (by cases h)⟩
                have HLT : Hid (2 * (k * (uni l).length - Sol.sizes ps (uni l) k (Sol.hs (L2.map (·.1)))) + 1 < gk) := by
                  have h1 := HRN.out.more (HA.out.2 rfl)
                  have h2 := Sol.sizes_le ps (uni l) k (Sol.hs (L2.map (·.1)))
                  have h3 := HGK.out
                  show _ < _
                  omega
                clear HA
                go_wp2
                go_roundg (2 * (k * (uni l).length - Sol.sizes ps (uni l) k (Sol.hs (L2.map (·.1)))) + 1)
                case measure => exact HLT.out
                case rel => exact ⟨true, ao2, cap2, B2, L2, rfl, rfl, HF⟩
end Go.Proofs.YtpbknhhjfhpkmaaGreatDoor

namespace Go.Proofs.YtpbknhhjfhpkmaaGreatDoor
open Go.RowKit

set_option maxRecDepth 100000 in
set_option maxHeartbeats 4000000 in
theorem leastF1 (q0 q1 : Nat) (ao po xo yo : Option Addr) (b off b' off' n m c d xb xf xn xc yb yf yn yc : Nat) (ls : List ByteArray) (ps : List (ByteArray × ByteArray)) (x y : List Pol) (w : World) (h0 : checkF ls ps = 0) (hch : Chiefs w ao po b off b' off' n m c ls ps) (k0 : w.cell? ⟨q0, 0, none⟩ = some (.slice ao n c)) (k1 : w.cell? ⟨q1, 0, none⟩ = some (.slice po m d))
    (hx : LabAt w xo xb xf xn xc x) (hy : LabAt w yo yb yf yn yc y) (hxk : LbOK ls x) (hyk : LbOK ls y) (hc1 : chk1 ls x = 0) (f1 : Lab.flowsB ls ps x y = true) (f2 : Lab.flowsB ls ps y x = true) (hnm : Lab.Norm blt plt ps x x) :
    Calls Tryz.prog 10 #[.slice xo xn xc, .slice yo yn yc, .pointer (some ⟨q0, 0, none⟩), .pointer (some ⟨q1, 0, none⟩)] w fun e w' => e = .returned (.bool true) ∧ Below w.heap.size w w' := by
  obtain ⟨h66, _, hr, hnn⟩ := right_of h0
  have hsm := smallP_of h0 hxk.of hxk.six
  have hcl := checkLabelR ao xo b off n c xb xf xn xc ls x w hch.ln hch.mn hch.strs hx
  rw [hc1] at hcl
  have HM1 : Hid (∀ W, Below w.heap.size w W → Calls Tryz.prog 12 #[.slice po m d, .slice xo xn xc, .slice yo yn yc] W fun e w' => e = .returned (.bool true) ∧ Below W.heap.size W w') := fun W hW => by
    have := mayGoR po xo yo b' off' m d xb xf xn xc yb yf yn yc ls ps x y W ((pairs_sw hch h0).later hW) hr ((good_lab hx hxk).later hW) ((good_lab hy hyk).later hW)
    rw [f1] at this
    exact this
  have HM2 : Hid (∀ W, Below w.heap.size w W → Calls Tryz.prog 12 #[.slice po m d, .slice yo yn yc, .slice xo xn xc] W fun e w' => e = .returned (.bool true) ∧ Below W.heap.size W w') := fun W hW => by
    have := mayGoR po yo xo b' off' m d yb yf yn yc xb xf xn xc ls ps y x W ((pairs_sw hch h0).later hW) hr ((good_lab hy hyk).later hW) ((good_lab hx hxk).later hW)
    rw [f2] at this
    exact this
  have HNO : Hid (∀ W, Below w.heap.size w W → Calls Tryz.prog 14 #[.slice po m d, .slice xo xn xc] W fun e w' => ∃ zo zb zf zc, e = .returned (.slice zo xn zc) ∧ LabAt w' zo zb zf xn zc x ∧ Below W.heap.size W w') := fun W hW => by
    refine (normalOf po xo b' off' m d xb xf xn xc ls ps x W ((pairs_sw hch h0).later hW) hr h66 hx.ln (by have := hx.ln; have := hxk.few; omega) (hx.pols.later hW) hxk.of hnn hxk.six).mono ?_
    rintro e w' ⟨v, z, rfl, hz, hl, hb⟩
    have hzx : z = x := Lab.norm_unique plt_order hz hnm
    subst hzx
    obtain ⟨zo, zb, zf, zc, e, ha⟩ := hl.at' hsm
    rw [← hx.ln] at e ha
    exact ⟨zo, zb, zf, zc, by rw [e], ha, hb⟩
  have HX : Hid (LabAt w xo xb xf xn xc x) := hx
  have HXK : Hid (LbOK ls x) := hxk
  have HK0 : Hid (w.cell? ⟨q0, 0, none⟩ = some (.slice ao n c)) := k0
  have HK1 : Hid (w.cell? ⟨q1, 0, none⟩ = some (.slice po m d)) := k1
  clear h66 hr hnn hsm h0 hch hx hy hxk hyk hc1 f1 f2 hnm k1
  go_enter Tryz.func10, Tryz.ntmps10
  go_wp2_with fail
  refine hcl.mono ?_
  rintro e w1 ⟨rfl, hb1⟩
  have HB1 : Hid (Below w.heap.size w w1) := hb1
  have c1 := cell_below hb1 HK1.out
  clear hb1 hcl k0
  go_wp2_with fail
  refine (HM1.out w1 HB1.out).mono ?_
  rintro e w2 ⟨rfl, hb2⟩
  have HB2 : Hid (Below w.heap.size w w2) := HB1.out.trans (hb2.mono HB1.out.size)
  have c2 := cell_below HB2.out HK1.out
  clear hb2 c1
  go_wp2_with fail
  refine (HM2.out w2 HB2.out).mono ?_
  rintro e w3 ⟨rfl, hb3⟩
  have HB3 : Hid (Below w.heap.size w w3) := HB2.out.trans (hb3.mono HB2.out.size)
  have c3 := cell_below HB3.out HK1.out
  clear hb3 c2
  go_wp2_with fail
  refine (HNO.out w3 HB3.out).mono ?_
  rintro e w4 ⟨zo, zb, zf, zc, rfl, hz, hb4⟩
  have HB4 : Hid (Below w.heap.size w w4) := HB3.out.trans (hb4.mono HB3.out.size)
  have hsame := sameLabel xo zo xb xf zb zf xn xc zc x w4 (by have := HX.out.ln; have := HXK.out.few; omega) (HX.out.later HB4.out) hz HXK.out.six
  clear hb4 hz c3
  go_wp2_with fail
  refine hsame.mono ?_
  rintro e w5 ⟨rfl, hb5⟩
  have HB5 : Hid (Below w.heap.size w w5) := HB4.out.trans (hb5.mono HB4.out.size)
  clear hb5 hsame
  go_wp2
  go_ret
  exact ⟨rfl, HB5.out⟩

set_option maxRecDepth 100000 in
set_option maxHeartbeats 4000000 in
theorem eqFL (q0 q1 : Nat) (ao bo : Option Addr) (b off b' off' n c d : Nat) (X Y : List (List Pol)) (w : World) (hn : n = X.length) (hn' : n = Y.length) (hm : n ≤ 1000) (h1 : LbsAt w ao b off X) (h2 : LbsAt w bo b' off' Y)
    (hf : ∀ W k (hX : k < X.length) (hY : k < Y.length) xo xb xf xn xc yo yb yf yn yc, Below w.heap.size w W → LabAt W xo xb xf xn xc X[k] → LabAt W yo yb yf yn yc Y[k] → Calls Tryz.prog 10 #[.slice xo xn xc, .slice yo yn yc, .pointer (some ⟨q0, 0, none⟩), .pointer (some ⟨q1, 0, none⟩)] W fun e w' => e = .returned (.bool true) ∧ Below W.heap.size W w') :
    Calls Tryz.prog 9 #[.slice ao n c, .slice bo n d, .func (.func 10) #[] #[.pointer (some ⟨q0, 0, none⟩), .pointer (some ⟨q1, 0, none⟩)]] w fun e w' => e = .returned (.bool true) ∧ Below w.heap.size w w' := by
  have HN : Hid (n = X.length) := hn
  have HN' : Hid (n = Y.length) := hn'
  have H1 : Hid (LbsAt w ao b off X) := h1
  have H2 : Hid (LbsAt w bo b' off' Y) := h2
  have HF : Hid (∀ W k (hX : k < X.length) (hY : k < Y.length) xo xb xf xn xc yo yb yf yn yc, Below w.heap.size w W → LabAt W xo xb xf xn xc X[k] → LabAt W yo yb yf yn yc Y[k] → Calls Tryz.prog 10 #[.slice xo xn xc, .slice yo yn yc, .pointer (some ⟨q0, 0, none⟩), .pointer (some ⟨q1, 0, none⟩)] W fun e w' => e = .returned (.bool true) ∧ Below W.heap.size W w') := hf
  have eg : ∀ args w, (callFunc 10 args).run Tryz.prog w = .ok (.enter 10 args) w := enters_of Tryz.func10 (by kernel_rfl) rfl
  clear hn hn' h1 h2 hf
  go_enter Tryz.func9, Tryz.ntmps9
  go_wp2
  go_loopw [17] (fun i wr => ∃ k : Nat, k ≤ n ∧ i = .int .i64 k ∧ Hid (Below w.heap.size w wr)) (fun i _ => n - (intOf i).toNat)
  case atStart => exact ⟨0, Nat.zero_le _, rfl, Below.refl _ _⟩
  case round =>
    obtain ⟨k, hk, rfl, HB⟩ := hrel
    by_cases hlt : k < n
    · have hkx : k < X.length := by have := HN.out; omega
      have hky : k < Y.length := by have := HN'.out; omega
      have hX := H1.out.later HB.out
      have hY := H2.out.later HB.out
      have hao := hX.adr (by omega)
      have hbo := hY.adr (by omega)
      obtain ⟨v1, g1, xo, xb, xf, xn, xc, e1, l1⟩ := hX.at' k hkx
      obtain ⟨v2, g2, yo, yb, yf, yn, yc, e2, l2⟩ := hY.at' k hky
      subst e1 e2
      have hcall := HF.out wr k hkx hky xo xb xf xn xc yo yb yf yn yc HB.out l1 l2
      clear hX hY l1 l2 hkx hky
      subst hao hbo
      go_wp2_with fail
      refine hcall.mono ?_
      rintro e w1 ⟨rfl, hb1⟩
      have HB1 : Hid (Below w.heap.size w w1) := HB.out.trans (hb1.mono HB.out.size)
      clear hb1 hcall
      go_wp2
      go_roundw
      case rel => exact ⟨k + 1, by omega, by go_num, HB1⟩
      case measure => simp [intOf]; omega
    · have hkn : k = n := by omega
      go_wp2
      go_ret
      exact ⟨rfl, HB.out⟩

/- What solve.Least came to. -/
def LsRes (w : World) (ls : List ByteArray) (ps : List (ByteArray × ByteArray)) (Ni : Int) (l : List RBd) (ro : Option Addr) (rn : Nat) (e0 : Int) : Prop :=
  (chkB ls ps Ni l ≠ 0 ∧ rn = 0 ∧ e0 = chkB ls ps Ni l) ∨ (chkB ls ps Ni l = 0 ∧ e0 = 0 ∧ ∃ rb ys, rn = ys.length ∧ LbsAt w ro rb 0 ys ∧ LeastOK ls ps Ni.toNat l ys)
theorem chkB_nat {ls : List ByteArray} {ps : List (ByteArray × ByteArray)} {Ni : Int} {l : List RBd} (h : chkB ls ps Ni l = 0) : ∃ N : Nat, Ni = (N : Int) := by
  unfold chkB at h
  split at h
  · split at h
    · cases h
    · exact ⟨Ni.toNat, by omega⟩
  · rename_i hF
    exact absurd h hF

set_option maxRecDepth 100000 in
set_option maxHeartbeats 8000000 in
theorem law_least (ao po lo : Option Addr) (b off b' off' n m c d lb loff ln lc : Nat) (Ni mx : Int) (ls : List ByteArray) (ps : List (ByteArray × ByteArray)) (l : List RBd) (w : World) (hch : Chiefs w ao po b off b' off' n m c ls ps) (hpz : ∀ p ∈ ps, p.1.size ≤ maxLen ∧ p.2.size ≤ maxLen) (hmx : w.cell? ⟨1, 0, none⟩ = some (.int .i64 mx)) (hl : Bds w lo lb loff l) (hn : ln = l.length) (hm : ln ≤ maxLen) (hT : TzTab w) :
    Calls Tryz.prog 3 #[.slice ao n c, .slice po m d, .int .i64 Ni, .slice lo ln lc] w fun e w' => e = .returned (.bool true) ∧ Below w.heap.size w w' := by
  obtain ⟨wz, hwz⟩ : ∃ wz, wz = (w.alloc (.cells #[.slice ao n c] 22)).alloc (.cells #[.slice po m d] 23) := ⟨_, rfl⟩
  have hbz : Below w.heap.size w wz := by rw [hwz]; exact ((Below.refl _ _).alloc (Nat.le_refl _) _).alloc (by simp) _
  have z0 : wz.heap[w.heap.size]? = some (.cells #[.slice ao n c] 22 (0, 0)) := by rw [hwz]; exact heap_past_alloc (heap_at_alloc _ _ _ rfl)
  have z1 : wz.heap[w.heap.size + 1]? = some (.cells #[.slice po m d] 23 (0, 0)) := by rw [hwz]; exact heap_at_alloc _ _ _ (by simp)
  have HK : Hid (∀ W, Below wz.heap.size wz W → W.cell? ⟨w.heap.size, 0, none⟩ = some (.slice ao n c) ∧ W.cell? ⟨w.heap.size + 1, 0, none⟩ = some (.slice po m d) ∧ w.heap.size < W.heap.size ∧ w.heap.size + 1 < W.heap.size) := fun W hW => by
    have e0 := (hW.block _ (lt_of_block z0)).trans z0
    have e1 := (hW.block _ (lt_of_block z1)).trans z1
    exact ⟨by simp [World.cell?, e0], by simp [World.cell?, e1], lt_of_block e0, lt_of_block e1⟩
  have HWZ : Hid (wz = (w.alloc (.cells #[.slice ao n c] 22)).alloc (.cells #[.slice po m d] 23)) := hwz
  have HBZ : Hid (Below w.heap.size w wz) := hbz
  have hle := leastL ao po lo b off b' off' n m c d lb loff ln lc Ni ls ps l wz (hch.later hbz) (hl.later hbz) hn hm (hT.later hbz)
  have HCH : Hid (Chiefs wz ao po b off b' off' n m c ls ps) := hch.later hbz
  have HBD : Hid (Bds wz lo lb loff l) := hl.later hbz
  have HT : Hid (TzTab wz) := hT.later hbz
  have HLN : Hid (ln = l.length) := hn
  have HLM : Hid (ln ≤ maxLen) := hm
  have HPZ : Hid (∀ p ∈ ps, p.1.size ≤ maxLen ∧ p.2.size ≤ maxLen) := hpz
  have HMX : Hid (wz.cell? ⟨1, 0, none⟩ = some (.int .i64 mx)) := cell_below hbz hmx
  have hmf : ∀ (fn : Fn) (first cap : Array Value) (w : World), (Instr.makeFunc fn first cap).run Tryz.prog w = .ok (.func fn first cap) w := fun _ _ _ _ => rfl
  clear hch hl hT hn hm hpz hmx hbz hwz z0 z1
  go_enter Tryz.func3, Tryz.ntmps3
  go_wp2_with fail
  rw [← HWZ.out]
  refine hle.mono ?_
  clear hle HWZ
  intro e w1 hres
  obtain ⟨hb1, ro, rn, rc, e0, rfl, hres'⟩ : Below wz.heap.size wz w1 ∧ ∃ ro rn rc e0, e = .returned (.tuple #[.slice ro rn rc, .int .i64 e0]) ∧ LsRes w1 ls ps Ni l ro rn e0 := by
    obtain ⟨hb1, ⟨hne, rfl⟩ | ⟨hz, ro, rb, rc, ys, rfl, hym, hat, hok⟩⟩ := hres
    · exact ⟨hb1, none, 0, 0, _, rfl, .inl ⟨hne, rfl, rfl⟩⟩
    · exact ⟨hb1, ro, ys.length, rc, 0, rfl, .inr ⟨hz, rfl, rb, ys, rfl, hat, hok⟩⟩
  have HRES : Hid (LsRes w1 ls ps Ni l ro rn e0) := hres'
  have HB1 : Hid (Below wz.heap.size wz w1) := hb1
  have hbad := badBd ao po lo b off b' off' n m c d lb loff ln lc Ni mx ls ps l w1 (HCH.out.later hb1) HPZ.out (cell_below hb1 HMX.out) (HBD.out.later hb1) HLN.out HLM.out
  obtain ⟨x1, x2, x3, x4⟩ := HK.out w1 hb1
  obtain ⟨E, hE⟩ : ∃ E, E = chkB ls ps Ni l := ⟨_, rfl⟩
  rw [← hE] at hbad
  have HE : Hid (E = chkB ls ps Ni l) := hE
  clear hres hres' hb1 hE
  go_wp2_with fail
  refine hbad.mono ?_
  rintro e w2 ⟨rfl, hb2⟩
  have HB2 : Hid (Below w1.heap.size w1 w2) := hb2
  have HBW : Hid (Below wz.heap.size wz w2) := HB1.out.trans (HB2.out.mono HB1.out.size)
  clear hb2 hbad x1 x2 x3 x4
  rcases HRES.out with ⟨hne, hx0, he0⟩ | ⟨hz, he0, rb, ys, hrn, hat, hok⟩
  · subst hx0
    subst he0
    rw [← HE.out] at hne ⊢
    have bn : (E != 0) = true := by simp [hne]
    have be : (E == 0) = false := by simp [hne]
    clear HRES hne HE
    go_wp2_with fail
    refine (solved_any _ (HT.out.later HBW.out)).mono ?_
    rintro e w3 ⟨rfl, hb3⟩
    have HB3 : Hid (Below wz.heap.size wz w3) := HBW.out.trans (hb3.mono HBW.out.size)
    clear hb3
    go_wp2_with fail
    refine (solved_any _ (HT.out.later HB3.out)).mono ?_
    rintro e w4 ⟨rfl, hb4⟩
    have HB4 : Hid (Below wz.heap.size wz w4) := HB3.out.trans (hb4.mono HB3.out.size)
    clear hb4
    go_wp2
    go_ret
    exact ⟨rfl, HBZ.out.trans (HB4.out.mono HBZ.out.size)⟩
  · subst he0
    have hE0 : E = 0 := HE.out.trans hz
    subst hE0
    obtain ⟨N, hN⟩ := chkB_nat hz
    subst hN
    obtain ⟨hF, hn4, hl4, hone⟩ := chkB_parts hz
    have HF0 : Hid (checkF ls ps = 0) := hF
    have HYN : Hid (rn = ys.length) := hrn
    rw [Int.toNat_natCast] at hok
    have hrN : rn = N := hrn.trans hok.len
    have HOK : Hid (LeastOK ls ps N l ys) := hok
    have HAT : Hid (LbsAt w1 ro rb 0 ys) := hat
    have HLR : Hid (∀ W, Below wz.heap.size wz W → Calls Tryz.prog 8 #[.slice po m d, .int .i64 (N : Int), .slice lo ln lc] W fun e w' => ∃ (ao' : Option Addr) (cap B : Nat) (L : List LV), e = .returned (.slice ao' N cap) ∧ HvSt w' N ao' B L ∧ (∀ y ∈ L, LbOK ls y.1) ∧ Sol.Least ps (l.map toB) (Sol.hs (L.map (·.1))) ∧ Below W.heap.size W w') := fun W hW =>
      leastR po lo b' off' m d N lb loff ln lc ls ps l W (pairs_sw (HCH.out.later hW) HF0.out) HF0.out hn4 (HBD.out.later hW) HLN.out (by have := HLN.out; omega) (fun x hx => bdok_of (hone x hx))
    clear hz hF hl4 hone hok hat hrn HRES HE
    subst hrN
    go_wp2_with fail
    refine (solved_any _ (HT.out.later HBW.out)).mono ?_
    rintro e w3 ⟨rfl, hb3⟩
    have HB3 : Hid (Below w1.heap.size w1 w3) := HB2.out.trans (hb3.mono HB2.out.size)
    have HBW3 : Hid (Below wz.heap.size wz w3) := HB1.out.trans (HB3.out.mono HB1.out.size)
    obtain ⟨x1, x2, x3, x4⟩ := HK.out w3 HBW3.out
    clear hb3
    go_wp2_with fail
    refine (HLR.out w3 HBW3.out).mono ?_
    rintro e w4 ⟨ao', cap', B', L, rfl, hhv, hlk, hlt, hb4⟩
    have HB4 : Hid (Below w1.heap.size w1 w4) := HB3.out.trans (hb4.mono HB3.out.size)
    have HBW4 : Hid (Below wz.heap.size wz w4) := HB1.out.trans (HB4.out.mono HB1.out.size)
    have HFL : Hid (∀ k (h1 : k < ys.length) (h2 : k < (L.map (·.1)).length), Lab.flowsB ls ps ys[k] (L.map (·.1))[k] = true ∧ Lab.flowsB ls ps (L.map (·.1))[k] ys[k] = true) := fun k h1 h2 => by
      obtain ⟨_, _, hr, _⟩ := right_of HF0.out
      have hy : ∀ z ∈ ys, LbOK ls z := fun z hz => lbok_of (HOK.out.ok z hz)
      exact ⟨(hs_go hr hy (map_ok hlk) h1 h2).2 (HOK.out.least.same hlt k), (hs_go hr (map_ok hlk) hy h2 h1).2 (hlt.same HOK.out.least k)⟩
    have heq := eqFL w.heap.size (w.heap.size + 1) ro ao' rb 0 B' 0 rn rc cap' ys (L.map (·.1)) w4 HYN.out (by rw [List.length_map]; exact hhv.len.symm) (by omega) (HAT.out.later HB4.out) (hhv.lbs (small_ok HF0.out hlk)) (fun W k hX hY xo xb xf xn xc yo yb yf yn yc hW l1 l2 => by
      have hWz := HBW4.out.trans (hW.mono HBW4.out.size)
      obtain ⟨y1, y2, _, _⟩ := HK.out W hWz
      obtain ⟨g1, g2⟩ := HFL.out k hX hY
      have ck := HOK.out.ok _ (List.getElem_mem hX)
      exact leastF1 w.heap.size (w.heap.size + 1) ao po xo yo b off b' off' n m c d xb xf xn xc yb yf yn yc ls ps ys[k] (L.map (·.1))[k] W HF0.out (HCH.out.later hWz) y1 y2 l1 l2 (lbok_of ck) (map_ok hlk _ (List.getElem_mem hY)) (by rw [← chk_is HF0.out]; exact ck) g1 g2 (HOK.out.norm _ (List.getElem_mem hX)))
    clear hhv hlk hlt hb4 HFL
    go_wp2_with fail
    refine heq.mono ?_
    rintro e w5 ⟨rfl, hb5⟩
    have HB5 : Hid (Below wz.heap.size wz w5) := HBW4.out.trans (hb5.mono HBW4.out.size)
    clear hb5 heq
    go_wp2
    go_ret
    exact ⟨rfl, HBZ.out.trans (HB5.out.mono HBZ.out.size)⟩
end Go.Proofs.YtpbknhhjfhpkmaaGreatDoor
