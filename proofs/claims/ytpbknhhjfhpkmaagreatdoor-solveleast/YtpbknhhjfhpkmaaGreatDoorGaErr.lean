/- The document's NormalOf: the keys of a label's policies. The document's LessOf. -/
import Derived.Test.YtpbknhhjfhpkmaaGreatDoorGaNV
import Derived.Test.YtpbknhhjfhpkmaaGreatDoorGaRef
import Derived.Test.YtpbknhhjfhpkmaaGreatDoorGaLab
import Derived.Maps.AppendAt
import Derived.Deep.RegionHeld3
import Derived.Test.YtpbknhhjfhpkmaaGreatDoorGaSort
namespace Go.Proofs.YtpbknhhjfhpkmaaGreatDoor
open Go.RowKit

theorem zeroPolZ (w : World) : (zeroValue 63).run Tryz.prog w = .ok (.agg #[.string ⟨#[]⟩, .slice none 0 0]) w := by kernel_rfl
theorem zeroIntZ (w : World) : (zeroValue 3).run Tryz.prog w = .ok (.int .i64 0) w := by kernel_rfl
theorem unPol : Tryz.prog.underlying 71 = some (.map 9 63) := Tryz.underlying71
theorem unInt : Tryz.prog.underlying 72 = some (.map 9 3) := Tryz.underlying72
theorem nst_start (w : World) (x : List Pol) : NSt w (((w.alloc (.map #[] 0)).alloc (.cells #[.map (some w.heap.size)] 71)).alloc (.cells #[.slice none 0 0] 22)) x 0 [] (fun _ => .slice none 0 0) (fun _ => none) (.slice none 0 0) := by
  have g1 : (w.alloc (.map #[] 0)).grownBy (((w.alloc (.map #[] 0)).alloc (.cells #[.map (some w.heap.size)] 71)).alloc (.cells #[.slice none 0 0] 22)) none := grown_alloc (grown_alloc (grown_refl _ _) _) _
  refine ⟨(((Below.refl _ _).alloc (Nat.le_refl _) _).alloc (by simp) _).alloc (by simp; omega) _, heap_past_alloc (heap_at_alloc _ _ _ (by simp)), heap_at_alloc _ _ _ (by simp), (MapV.made w).kept g1 (by simp), World.ownsRow_nil _ _ _ _, fun c hc => (by cases hc), List.nodup_nil, fun c => ?_, fun c hc => (by cases hc), fun s hs => (by cases hs)⟩
  simp
theorem ist_start (wr : World) (o : ByteArray) (pv : Value) (rs : List ByteArray) : ISt wr (((wr.alloc (.cells #[.string o, pv] 63)).alloc (.map #[] 0)).alloc (.cells #[.string o, .slice none 0 0] 63)) o pv rs 0 [] (fun _ => none) (.slice none 0 0) := by
  have g1 : ((wr.alloc (.cells #[.string o, pv] 63)).alloc (.map #[] 0)).grownBy (((wr.alloc (.cells #[.string o, pv] 63)).alloc (.map #[] 0)).alloc (.cells #[.string o, .slice none 0 0] 63)) none := grown_alloc (grown_refl _ _) _
  have hm := MapV.made (wr.alloc (.cells #[.string o, pv] 63))
  have e : (wr.alloc (.cells #[.string o, pv] 63)).heap.size = wr.heap.size + 1 := by simp
  rw [e] at hm
  refine ⟨(((Below.refl _ _).alloc (Nat.le_refl _) _).alloc (by simp) _).alloc (by simp; omega) _, heap_past_alloc (heap_past_alloc (heap_at_alloc _ _ _ rfl)), heap_at_alloc _ _ _ (by simp), hm.kept g1 (by simp), World.ownsRow_nil _ _ _ _, List.nodup_nil, fun r => by simp, fun r _ => rfl, fun r hr => (by simp at hr), Nat.le_refl _⟩

theorem nst_few {w wr : World} {x L : List Pol} {k : Nat} {val : Pol → Value} {f : ByteArray → Option Value} {kv : Value} {ls : List ByteArray} (h : NSt w wr x k L val f kv) (h6 : ls.length ≤ 6) (hof : Lab.OfL ls x) : L.length ≤ 192 := by
  refine Lab.few_nodup blt_order h6 h.nodup (fun c hc => ?_) (fun c hc => ?_)
  · obtain ⟨p, _, e⟩ := (h.mem c).1 hc
    rw [← e]
    exact Lab.clean_clean (plainF_clean p)
  · obtain ⟨p, hp, e⟩ := (h.mem c).1 hc
    rw [← e]
    exact of_plain (hof p (List.mem_of_mem_take hp))

set_option maxRecDepth 100000 in
set_option maxHeartbeats 8000000 in
theorem normalOf (po xo : Option Addr) (b off m d xb xoff n c : Nat) (ls : List ByteArray) (ps : List (ByteArray × ByteArray)) (x : List Pol) (w : World) (hp : Pairs w po b off m ps) (hr : Act.Right ls ps) (h66 : ls.length ≤ 6) (hn : n = x.length) (hm : n ≤ 100000) (hx : Pols w xo xb xoff x) (hof : Lab.OfL ls x) (hnm : ∀ s ∈ ls, Lex.nameF s.data.toList = true) (h6 : ∀ p ∈ x, p.2.length ≤ 6) :
    Calls Tryz.prog 14 #[.slice po m d, .slice xo n c] w fun e w' => ∃ (v : Value) (y : List Pol), e = .returned v ∧ Lab.Norm blt plt ps x y ∧ LabNew w' w.heap.size v y ∧ Below w.heap.size w w' := by
  have HP : Hid (Pairs w po b off m ps) := hp
  have HR : Hid (Act.Right ls ps) := hr
  have HN : Hid (n = x.length) := hn
  have HX : Hid (Pols w xo xb xoff x) := hx
  have HOF : Hid (Lab.OfL ls x) := hof
  have HSIX : Hid (ls.length ≤ 6) := h66
  have HNM : Hid (∀ p ∈ x, NamedP p ∧ NamedP (plainF p) ∧ (plainF p).2.length ≤ 6) := fun p hp => ⟨named_of hnm (hof p hp), named_of hnm (of_plain (hof p hp)), Nat.le_trans (plainF_len p) (h6 p hp)⟩
  have H6 : Hid (∀ p ∈ x, p.2.length ≤ 6) := h6
  obtain ⟨wz, hwz⟩ : ∃ wz, wz = ((w.alloc (.map #[] 0)).alloc (.cells #[.map (some w.heap.size)] 71)).alloc (.cells #[.slice none 0 0] 22) := ⟨_, rfl⟩
  have HS0 : Hid (NSt w wz x 0 [] (fun _ => .slice none 0 0) (fun _ => none) (.slice none 0 0)) := by rw [hwz]; exact nst_start w x
  have HWZ : Hid (wz = ((w.alloc (.map #[] 0)).alloc (.cells #[.map (some w.heap.size)] 71)).alloc (.cells #[.slice none 0 0] 22)) := hwz
  have hmm := @run_makeMap Tryz.prog
  clear hp hr hn hx hof hnm h6 hwz h66
  go_enter Tryz.func14, Tryz.ntmps14
  go_wp2
  rw [← HWZ.out]
  clear HWZ
  go_loopw [27] (fun i wr => ∃ k : Nat, k ≤ n ∧ i = .int .i64 k ∧ Hid (∃ L val f kv, NSt w wr x k L val f kv)) (fun i _ => n - (intOf i).toNat)
  case atStart => exact ⟨0, Nat.zero_le _, rfl, _, _, _, _, HS0.out⟩
  case round =>
    clear HS0
    obtain ⟨k, hk, rfl, HL⟩ := hrel
    obtain ⟨L, val, f, kv, hS⟩ := HL.out
    have HS : Hid (NSt w wr x k L val f kv) := hS
    clear HL hS
    by_cases hlt : k < n
    · have hkl : k < x.length := by have := HN.out; omega
      have hX := HX.out.later HS.out.bel
      have hao := hX.adr (by omega)
      have f0 := hX.c0 k hkl
      obtain ⟨pv, f1, hv⟩ := hX.c1 k hkl
      have hnp := HNM.out _ (List.getElem_mem hkl)
      have hp6 := H6.out _ (List.getElem_mem hkl)
      obtain ⟨p, hp⟩ : ∃ p, p = x[k] := ⟨_, rfl⟩
      rw [← hp] at f0 hv hnp hp6
      have HPK : Hid (x[k] = p) := hp.symm
      obtain ⟨o, rs⟩ := p
      simp only at f0 hv hp6
      obtain ⟨ro, rb, roff, rc, hv1, _, _, hv4⟩ := hv
      subst hv1
      have HRS : Hid (Strs wr ro rb roff rs) := hv4
      have HNP : Hid (NamedP (o, rs) ∧ NamedP (plainF (o, rs)) ∧ (plainF (o, rs)).2.length ≤ 6) := hnp
      obtain ⟨rn, hrn⟩ : ∃ rn, rn = rs.length := ⟨_, rfl⟩
      rw [← hrn] at f1 hp6
      have HRN : Hid (rn = rs.length) := hrn
      obtain ⟨pv, hpv⟩ : ∃ pv, pv = Value.slice ro rn rc := ⟨_, rfl⟩
      obtain ⟨wy, hwy⟩ : ∃ wy, wy = ((wr.alloc (.cells #[.string o, .slice ro rn rc] 63)).alloc (.map #[] 0)).alloc (.cells #[.string o, .slice none 0 0] 63) := ⟨_, rfl⟩
      have HI0 : Hid (ISt wr wy o pv rs 0 [] (fun _ => none) (.slice none 0 0)) := by rw [hwy, hpv]; exact ist_start wr o _ rs
      have kp := HI0.out.bp
      rw [hpv] at kp
      have e1 : wy.cell? ⟨wr.heap.size, 1, none⟩ = some (.slice ro rn rc) := by simp [World.cell?, kp]
      have le1 : wr.heap.size < wy.heap.size := lt_of_block kp
      have HWY : Hid (wy = ((wr.alloc (.cells #[.string o, .slice ro rn rc] 63)).alloc (.map #[] 0)).alloc (.cells #[.string o, .slice none 0 0] 63)) := hwy
      have HPV : Hid (pv = Value.slice ro rn rc) := hpv
      clear hX hp hv4 hnp hrn hwy kp hpv
      subst hao
      go_wp2
      rw [← HWY.out]
      clear f0 f1 HWY
      obtain ⟨wq, hwq⟩ : ∃ wq, wq = wr := ⟨wr, rfl⟩
      subst hwq
      go_loopw [38] (fun i wx => ∃ j : Nat, j ≤ rn ∧ i = .int .i64 j ∧ Hid (∃ l g qv, ISt wq wx o pv rs j l g qv)) (fun i _ => rn - (intOf i).toNat)
      case atStart => exact ⟨0, Nat.zero_le _, rfl, _, _, _, HI0.out⟩
      case round =>
        clear HI0 e1 le1
        obtain ⟨j, hj, rfl, HL⟩ := hrel
        obtain ⟨l, g, qv, hI⟩ := HL.out
        have HI : Hid (ISt wq wr o pv rs j l g qv) := hI
        clear HL hI
        have kp := HI.out.bp
        have kq := HI.out.bq
        have cp0 : wr.cell? ⟨wq.heap.size, 0, none⟩ = some (.string o) := by simp [World.cell?, kp]
        have lq : wq.heap.size + 2 < wr.heap.size := lt_of_block kq
        have lp : wq.heap.size < wr.heap.size := lt_of_block kp
        obtain ⟨ao', cap', hqv⟩ := slice_of HI.out.own
        obtain ⟨N, hN⟩ : ∃ N, N = l.length := ⟨_, rfl⟩
        rw [← hN] at hqv
        have HNL : Hid (N = l.length) := hN
        have hN6 : N ≤ j := by rw [hN]; exact HI.out.len
        subst hqv
        have cq1 : wr.cell? ⟨wq.heap.size + 2, 1, none⟩ = some (.slice ao' N cap') := by simp [World.cell?, kq]
        have cq0 : wr.cell? ⟨wq.heap.size + 2, 0, none⟩ = some (.string o) := by simp [World.cell?, kq]
        clear kp kq hN
        by_cases hlt2 : j < rn
        · have hjl : j < rs.length := by have := HRN.out; omega
          have hro := HRS.out.adr (by omega)
          have r0 := (HRS.out.later HI.out.bel).cell j hjl
          have lrb : rb < wr.heap.size := (HRS.out.later HI.out.bel).lt (by omega)
          have hsz : rs[j].size ≤ maxLen := by have := name_short (HNP.out.1.2 _ (List.getElem_mem hjl)); unfold maxLen; omega
          obtain ⟨r, hr⟩ : ∃ r, r = rs[j] := ⟨_, rfl⟩
          have HRJ : Hid (rs[j] = r) := hr.symm
          rw [← hr] at r0 hsz
          have hmap := HI.out.map
          clear hr
          subst hro
          by_cases hin : r ∈ rs.take j
          · obtain ⟨cc, hc1, hc2, hc3⟩ := HI.out.cnt r hin
            have hl1 := hmap.hit unInt (zeroIntZ _) hsz hc3
            obtain ⟨w2, hup, hm2, hg2⟩ := hmap.put unInt hsz (by unfold maxLen; omega) (.int .i64 ((cc : Int) + 1))
            have hl2 := hm2.hit unInt (zeroIntZ _) hsz (putV_same _ _ _)
            have q1 : ((cc : Int) + 1 == 1) = false := by simp; omega
            have HF : Hid (ISt wq w2 o pv rs (j + 1) l (putV g r (.int .i64 ((cc : Int) + 1))) (.slice ao' N cap')) := by
              have h9 := HI.out.skip (w2 := w2) (c := cc) (z := (cc : Int) + 1) hjl hc2 (by omega) (by rw [HRJ.out]; exact hm2) hg2 (.inl (by rw [HRJ.out]; exact hin))
              rw [HRJ.out] at h9
              exact h9
            have lc : cc ≤ 6 := by omega
            clear hmap hm2 hg2 hc3 hin
            go_wp2
            go_roundw
            case rel => exact ⟨j + 1, by omega, by go_num, _, _, _, HF.out⟩
            case measure => simp [intOf]; omega
          · have hl1 := hmap.miss unInt (zeroIntZ _) hsz (HI.out.miss r hin)
            obtain ⟨w2, hup, hm2, hg2⟩ := hmap.put unInt hsz (by unfold maxLen; omega) (.int .i64 1)
            have hl2 := hm2.hit unInt (zeroIntZ _) hsz (putV_same _ _ _)
            have kp2 := (hg2.block _ (lt_of_block HI.out.bp) (by simp)).trans HI.out.bp
            have cp2 : w2.cell? ⟨wq.heap.size, 0, none⟩ = some (.string o) := by simp [World.cell?, kp2]
            by_cases he : r = o
            · have q0 : (r.toList == o.toList) = true := by rw [he]; simp
              have HF : Hid (ISt wq w2 o pv rs (j + 1) l (putV g r (.int .i64 1)) (.slice ao' N cap')) := by
                have h9 := HI.out.skip (w2 := w2) (c := 0) (z := 1) hjl (by omega) rfl (by rw [HRJ.out]; exact hm2) hg2 (.inr (by rw [HRJ.out]; exact he))
                rw [HRJ.out] at h9
                exact h9
              clear hmap hm2 hg2 hin he kp2
              go_wp2
              go_roundw
              case rel => exact ⟨j + 1, by omega, by go_num, _, _, _, HF.out⟩
              case measure => simp [intOf]; omega
            · have q0 : (r.toList == o.toList) = false := beq_ne he
              have kq2 := (hg2.block _ (lt_of_block HI.out.bq) (by simp)).trans HI.out.bq
              have cq2 : w2.cell? ⟨wq.heap.size + 2, 1, none⟩ = some (.slice ao' N cap') := by simp [World.cell?, kq2]
              have lq2 : wq.heap.size + 2 < w2.heap.size := lt_of_block kq2
              have HO2 : Hid (w2.ownsRow (wq.heap.size + 3) 9 1 (.slice ao' N cap') N (strC l)) := by
                have h9 := own_other HI.out.own hg2 (by omega)
                rw [← HNL.out] at h9
                exact h9
              have HPUT : Hid (∀ w3 qv' ob, w3.ownsRow (wq.heap.size + 3) 9 1 qv' (N + 1) (strC l ++ [.string r]) → (w2.alloc ob).grownBy w3 (Value.slice ao' N cap').ownBlock → ISt wq (w3.setCell ⟨wq.heap.size + 2, 1, none⟩ qv') o pv rs (j + 1) (l ++ [r]) (putV g r (.int .i64 1)) qv') := fun w3 qv' ob h1 h2 => by
                have h9 := HI.out.put (w2 := w2) (w3 := w3) (qv' := qv') (ob := ob) hjl (by rw [HRJ.out]; exact hin) (by rw [HRJ.out]; exact he) (by rw [HRJ.out]; exact hm2) hg2 (by rw [HRJ.out, ← HNL.out]; exact h1) h2
                rw [HRJ.out] at h9
                exact h9
              have HBX : Hid (∀ w3 ob, (w2.alloc ob).grownBy w3 (Value.slice ao' N cap').ownBlock → w3.heap[wq.heap.size + 2]? = some (.cells #[.string o, .slice ao' N cap'] 63 (0, 0))) := fun w3 ob h2 =>
                (h2.block _ (lt_of_block (heap_past_alloc kq2)) (fun e => by have h8 := HI.out.own; rw [← HNL.out] at h8; have := (h8.lt _ e.symm).1; omega)).trans (heap_past_alloc kq2)
              obtain ⟨i0, hi, hz0, hz1, hz2⟩ := info_parts Tryz.infoStr
              have hbig : wq.heap.size + 3 ≤ w2.heap.size := lq2
              clear hmap hm2 hg2 hin he kp2 kq2
              go_wp2_with (at_builtin; refine wpList_append_own _ rfl _ _ 22 rfl (wq.heap.size + 3) 9 i0 (.string ⟨#[]⟩) 1 16 Tryz.underlying22 hi hz0 hz1 hz2 rfl (by decide) _ _ _ rfl (World.ownsRow.alloc HO2.out _) ⟨w2.heap.size, 0, none⟩ 1 1 [.string r] rfl rfl ?c1 ?c2 ?c3 ?c4 ?c5 ?_)
              case c1 => exact one_new _ _ _
              case c2 => intro u hu; simp at hu; subst hu; rfl
              case c3 => unfold maxLen; omega
              case c4 => omega
              case c5 => simp; omega
              · intro v' w5 hown5 hgrow5 _
                have k5 := HBX.out _ _ hgrow5
                have c5 : w5.cell? ⟨wq.heap.size + 2, 1, none⟩ = some (.slice ao' N cap') := by simp [World.cell?, k5]
                have z5 : w5.frozen? ⟨wq.heap.size + 2, 1, none⟩ = false := by simp [World.frozen?, k5]
                have l5 : wq.heap.size + 2 < w5.heap.size := lt_of_block k5
                have HF : Hid (ISt wq (w5.setCell ⟨wq.heap.size + 2, 1, none⟩ v') o pv rs (j + 1) (l ++ [r]) (putV g r (.int .i64 1)) v') := HPUT.out _ _ _ hown5 hgrow5
                obtain ⟨a5, cp5, hv5⟩ := slice_of hown5
                subst hv5
                clear hown5 hgrow5 k5 HPUT HBX HO2
                go_wp2
                go_roundw
                case rel => exact ⟨j + 1, by omega, by go_num, _, _, _, HF.out⟩
                case measure => simp [intOf]; omega
        · have hjn : j = rn := by omega
          have HOL : Hid (wr.ownsRow (wq.heap.size + 3) 9 1 (.slice ao' N cap') N (strC l)) := by have h9 := HI.out.own; rw [← HNL.out] at h9; exact h9
          have hcall := sortStr (wq.heap.size + 3) ao' N cap' l wr HNL.out (by omega) HOL.out
          have HMEM : Hid (∀ r, r ∈ l ↔ r ∈ rs ∧ r ≠ o) := fun r => by
            have h9 := HI.out.mem r
            rw [List.take_of_length_le (by have := HRN.out; omega)] at h9
            exact h9
          clear hjn
          go_wp2_with fail
          refine hcall.mono ?_
          rintro e w3 ⟨rfl, hpost⟩
          obtain ⟨l', hperm, hsort, hown3, hgr3⟩ := hpost
          have HCL : Hid (plainF (o, rs) = (o, l')) := clean_sorted HMEM.out HI.out.nodup hperm hsort
          have HNL' : Hid (N = l'.length) := by show _ = _; rw [HNL.out, hperm.length_eq]
          have hlow : ∀ k, (Value.slice ao' N cap').ownBlock = some k → wq.heap.size + 3 ≤ k := fun k he => (hown3.lt _ he).1
          have HB3 : Hid (Below wq.heap.size wq w3) := HI.out.bel.grown hgr3 HI.out.bel.size (fun k he => by have := hlow k he; omega)
          have kq3 : w3.heap[wq.heap.size + 2]? = some (.cells #[.string o, .slice ao' N cap'] 63 (0, 0)) := (hgr3.block _ (lt_of_block HI.out.bq) (fun he => by have := hlow _ he.symm; omega)).trans HI.out.bq
          have HKQ : Hid (w3.heap[wq.heap.size + 2]? = some (.cells #[.string o, .slice ao' N cap'] 63 (0, 0))) := kq3
          have HOFB : Hid (OffB w3 kv.ownBlock (w.heap.size + 3) (o, l') (.slice ao' N cap')) := offB_new hown3 HNL'.out (fun k e => by have := (HS.out.own.lt _ e).2; omega) (by have := lt_of_block HS.out.bx1; omega)
          have HCN : Hid (NamedP (o, l') ∧ l'.length ≤ 6) := by
            have h9 := HNP.out.2
            rw [HCL.out] at h9
            exact h9
          have d0 : w3.cell? ⟨wq.heap.size + 2, 0, none⟩ = some (.string o) := by simp [World.cell?, kq3]
          have d1 : w3.cell? ⟨wq.heap.size + 2, 1, none⟩ = some (.slice ao' N cap') := by simp [World.cell?, kq3]
          have ld : wq.heap.size + 2 < w3.heap.size := lt_of_block kq3
          obtain ⟨J, hJ⟩ : ∃ J : ByteArray, J = ⟨(Lib.join (l'.map (·.data.toList)) [0]).toArray⟩ := ⟨_, rfl⟩
          have HJN : Hid (∀ W', Below w3.heap.size w3 W' → Calls Tryz.prog 34 #[.slice ao' N cap', .string ⟨#[0]⟩] W' fun e w' => e = .returned (.string J) ∧ Below W'.heap.size W' w') := fun W' hb => by
            obtain ⟨ro', rb', roff', rc', k1, k2, k3, k4⟩ := (HOFB.out.later hb).at'
            simp only at k1 k2 k4
            injection k1 with e1 e2 e3
            subst e1 e3
            rw [HNL'.out, hJ]
            exact joinZ _ rb' roff' _ l' W' k4 k2 (by have := HCN.out.2; omega) (by have := named_len HCN.out.1 HCN.out.2; simp only at this; omega)
          obtain ⟨K, hK⟩ : ∃ K, K = keyF (o, l') := ⟨_, rfl⟩
          have HJE : Hid (o ++ ⟨#[0]⟩ ++ J = K) := by show _ = _; rw [hK, hJ]; rfl
          have HK : Hid (K = keyF (o, l')) := hK
          have hKz : K.size ≤ maxLen := by rw [hK]; have := keyF_size HCN.out.1 HCN.out.2; unfold maxLen; omega
          have so : o.size ≤ 12 := name_short HCN.out.1.1
          have sJ : J.size ≤ 100 := by
            have h9 := named_len HCN.out.1 HCN.out.2
            simp only at h9
            rw [hJ]
            show (Lib.join (l'.map (·.data.toList)) [0]).toArray.size ≤ 100
            rw [List.size_toArray]; exact h9
          clear hcall hperm hsort hown3 hgr3 hlow kq3 HI HMEM HOL hK hJ cp0 cq0 cq1 lq lp hN6 HNL
          go_wp2
          go_cut [13] (fun s13 wc => s13 = .string K ∧ Hid (Below w3.heap.size w3 wc))
          case first =>
            go_region_with (go_at_call 34; refine (HJN.out _ (below_drew _)).mono ?_; rintro e w4 ⟨rfl, hb4⟩; have y1 := (hb4.cell (p := ⟨wq.heap.size + 2, 0, none⟩) ld).trans d0; have y2 := (hb4.cell (p := ⟨wq.heap.size + 2, 1, none⟩) ld).trans d1; have HB4 : Hid (Below w3.heap.size w3 w4) := (below_drew w3).trans hb4; clear hb4)
            all_goals (try go_wp2_with fail)
            all_goals go_meet
            all_goals exact ⟨by rw [← HJE.out], HB4⟩
          case rest =>
            obtain ⟨rfl, HB4⟩ := hcut
            have HBQ : Hid (Below wq.heap.size wq wc) := HB3.out.trans (HB4.out.mono HB3.out.size)
            have hS4 := HS.out.later HBQ.out
            have HO4 : Hid (OffB wc kv.ownBlock (w.heap.size + 3) (o, l') (.slice ao' N cap')) := HOFB.out.later HB4.out
            have kq4 := (HB4.out.block _ (lt_of_block HKQ.out)).trans HKQ.out
            have d0' : wc.cell? ⟨wq.heap.size + 2, 0, none⟩ = some (.string o) := by simp [World.cell?, kq4]
            have d1' : wc.cell? ⟨wq.heap.size + 2, 1, none⟩ = some (.slice ao' N cap') := by simp [World.cell?, kq4]
            have ld' : wq.heap.size + 2 < wc.heap.size := lt_of_block kq4
            have b0 : wc.cell? ⟨w.heap.size + 1, 0, none⟩ = some (.map (some w.heap.size)) := by simp [World.cell?, hS4.bx0]
            have b1 : wc.cell? ⟨w.heap.size + 2, 0, none⟩ = some kv := by simp [World.cell?, hS4.bx1]
            have lb1 : w.heap.size + 2 < wc.heap.size := lt_of_block hS4.bx1
            have lb0 : w.heap.size + 1 < wc.heap.size := lt_of_block hS4.bx0
            have HS4 : Hid (NSt w wc x k L val f kv) := hS4
            have HLN : Hid (∀ d ∈ L, NamedP d) := fun d hd => by
              obtain ⟨p, hp, e⟩ := (hS4.mem d).1 hd
              rw [← e]; exact (HNM.out p (List.mem_of_mem_take hp)).2.1
            have HCX : Hid (plainF x[k] = (o, l')) := by show _ = _; rw [HPK.out]; exact HCL.out
            have hask := hS4.map.asks unPol (zeroPolZ _) hKz
            have hk2 : k < maxLen := by unfold maxLen; omega
            have HKL : Hid (∀ j, kv.ownBlock = some j → w.heap.size + 3 ≤ j ∧ j < wq.heap.size) := fun j e => HS.out.own.lt _ e
            have lqw : w.heap.size + 3 ≤ wq.heap.size := lt_of_block HS.out.bx1
            have HKQ4 : Hid (wc.heap[wq.heap.size + 2]? = some (.cells #[.string o, .slice ao' N cap'] 63 (0, 0))) := kq4
            clear HB3 HKQ HOFB HJN HJE d0 d1 ld HS hS4 kq4 HB4 HRS HPV HCL
            by_cases hcL : (o, l') ∈ L
            · have hfv := HS4.out.hit _ hcL
              obtain ⟨vo, vb, voff, vc, hvv, _⟩ := HS4.out.off _ hcL
              rw [hvv] at hfv
              simp only at hfv
              rw [← HK.out] at hfv
              rw [hfv] at hask
              obtain ⟨vn, hvn⟩ : ∃ vn, vn = l'.length := ⟨_, rfl⟩
              rw [← hvn] at hask
              simp only [Option.getD_some, Option.isSome_some] at hask
              have hS5 := HS4.out.later ((Below.refl wc.heap.size wc).alloc (Nat.le_refl _) (.cells #[.string o, .slice vo vn vc] 63))
              obtain ⟨w10, hup, hm10, hg10⟩ := hS5.map.put unPol hKz hk2 (.agg #[.string o, .slice ao' N cap'])
              have HF : Hid (∃ L' val' f' kv', NSt w w10 x (k + 1) L' val' f' kv') := by
                rw [HK.out] at hm10
                exact ⟨_, _, _, _, hS5.again (c := (o, l')) hkl HCX.out hcL HLN.out (HO4.out.later ((Below.refl _ _).alloc (Nat.le_refl _) _)) hm10 hg10⟩
              clear hfv hvv hvn hS5 hm10 hg10 hcL HS4
              go_wp2
              go_roundw
              case rel => exact ⟨k + 1, by omega, by go_num, HF.out⟩
              case measure => simp [intOf]; omega
            · have hfn : f K = none := by
                cases h9 : f K with
                | none => rfl
                | some v =>
                  obtain ⟨d, hd, e⟩ := HS4.out.dom K (by rw [h9]; rfl)
                  rw [HK.out] at e
                  exact absurd (by rw [keyF_inj HCN.out.1 (HLN.out d hd) e]; exact hd) hcL
              rw [hfn] at hask
              simp only [Option.getD_none, Option.isSome_none] at hask
              obtain ⟨ko, kc, hkv⟩ := slice_of HS4.out.own
              obtain ⟨kn, hkn⟩ : ∃ kn, kn = L.length := ⟨_, rfl⟩
              rw [← hkn] at hkv
              subst hkv
              have HKN : Hid (kn = L.length) := hkn
              have hkn6 : kn ≤ 1000 := by
                have h9 := nst_few HS4.out HSIX.out HOF.out
                omega
              have HO5 : Hid ((wc.alloc (.cells #[.string ⟨#[]⟩, .slice none 0 0] 63)).ownsRow (w.heap.size + 3) 9 1 (.slice ko kn kc) kn (strC (L.map keyF))) := by
                have h9 := HS4.out.own
                rw [← HKN.out] at h9
                exact h9.alloc _
              obtain ⟨i0, hi, hz0, hz1, hz2⟩ := info_parts Tryz.infoStr
              have hbig : w.heap.size + 3 ≤ wc.heap.size := lb1
              obtain ⟨w5, hw5⟩ : ∃ w5, w5 = wc.alloc (.cells #[.string ⟨#[]⟩, .slice none 0 0] 63) := ⟨_, rfl⟩
              have hb5 : Below wc.heap.size wc w5 := by rw [hw5]; exact (Below.refl _ _).alloc (Nat.le_refl _) _
              have HS5 : Hid (NSt w w5 x k L val f (.slice ko kn kc)) := HS4.out.later hb5
              have HO6 : Hid (OffB w5 (Value.slice ko kn kc).ownBlock (w.heap.size + 3) (o, l') (.slice ao' N cap')) := HO4.out.later hb5
              have HQ5 : Hid (w5.heap[wq.heap.size + 2]? = some (.cells #[.string o, .slice ao' N cap'] 63 (0, 0))) := (hb5.block _ (lt_of_block HKQ4.out)).trans HKQ4.out
              have HW5 : Hid (w5 = wc.alloc (.cells #[.string ⟨#[]⟩, .slice none 0 0] 63)) := hw5
              have hz5 : w5.heap.size = wc.heap.size + 1 := by rw [hw5]; simp
              clear hfn hkn hw5 hb5
              go_wp2_with (at_builtin; refine wpList_append_own_at _ rfl _ _ 22 rfl (w.heap.size + 3) 9 i0 (.string ⟨#[]⟩) 1 16 Tryz.underlying22 hi hz0 hz1 hz2 rfl (by decide) _ _ _ rfl (World.ownsRow.alloc HO5.out _) ⟨wc.heap.size + 1, 0, none⟩ 1 1 [.string K] rfl rfl ?c1 ?c2 ?c3 ?c4 ?c5 ?_)
              case c1 =>
                have h9 := one_new w5 (.string K) 9
                rw [hz5, HW5.out] at h9
                exact h9
              case c2 => intro u hu; simp at hu; subst hu; rfl
              case c3 => unfold maxLen; omega
              case c4 => omega
              case c5 => simp; omega
              · intro v' w8 hown8 hgr8 _ hloc8
                rw [← HW5.out] at hgr8
                obtain ⟨a8, c8, hv8⟩ := slice_of hown8
                subst hv8
                have past : ∀ q X, w5.heap[q]? = some X → q < w.heap.size + 3 ∨ wq.heap.size ≤ q → w8.heap[q]? = some X := fun q X hq hlo =>
                  (hgr8.block _ (lt_of_block (heap_past_alloc hq)) (fun e => by have := HKL.out q e.symm; omega)).trans (heap_past_alloc hq)
                have k0 := past _ _ HS5.out.bx0 (.inl (by omega))
                have k1 := past _ _ HS5.out.bx1 (.inl (by omega))
                have kq := past _ _ HQ5.out (.inr (by omega))
                have g1 : w8.cell? ⟨w.heap.size + 2, 0, none⟩ = some (.slice ko kn kc) := by simp [World.cell?, k1]
                have g2 : w8.frozen? ⟨w.heap.size + 2, 0, none⟩ = false := by simp [World.frozen?, k1]
                have g3 : w.heap.size + 2 < w8.heap.size := lt_of_block k1
                have n0 : (w8.setCell ⟨w.heap.size + 2, 0, none⟩ (.slice a8 (kn + 1) c8)).heap[w.heap.size + 1]? = some (.cells #[.map (some w.heap.size)] 71 (0, 0)) := heap_past_set k0 (by simp)
                have nq : (w8.setCell ⟨w.heap.size + 2, 0, none⟩ (.slice a8 (kn + 1) c8)).heap[wq.heap.size + 2]? = some (.cells #[.string o, .slice ao' N cap'] 63 (0, 0)) := heap_past_set kq (by simp; omega)
                have e0 : (w8.setCell ⟨w.heap.size + 2, 0, none⟩ (.slice a8 (kn + 1) c8)).cell? ⟨w.heap.size + 1, 0, none⟩ = some (.map (some w.heap.size)) := by simp only [World.cell?, n0]; rfl
                have e1 : (w8.setCell ⟨w.heap.size + 2, 0, none⟩ (.slice a8 (kn + 1) c8)).cell? ⟨wq.heap.size + 2, 0, none⟩ = some (.string o) := by simp only [World.cell?, nq]; rfl
                have e2 : (w8.setCell ⟨w.heap.size + 2, 0, none⟩ (.slice a8 (kn + 1) c8)).cell? ⟨wq.heap.size + 2, 1, none⟩ = some (.slice ao' N cap') := by simp only [World.cell?, nq]; rfl
                have m8 : MapV w8 w.heap.size k f := (HS5.out.map.kept (row := none) (World.grownBy_alloc w5 _ none) (by simp)).kept hgr8 (fun e => by have := HKL.out _ e.symm; omega)
                have m9 : MapV (w8.setCell ⟨w.heap.size + 2, 0, none⟩ (.slice a8 (kn + 1) c8)) w.heap.size k f := m8.kept (row := some (w.heap.size + 2)) (grown_set (grown_refl _ _) rfl _) (by simp)
                obtain ⟨w10, hup, hm10, hg10⟩ := m9.put unPol hKz hk2 (.agg #[.string o, .slice ao' N cap'])
                have HF : Hid (∃ L' val' f' kv', NSt w w10 x (k + 1) L' val' f' kv') := by
                  rw [HK.out] at hm10
                  have hown9 : w8.ownsRow (w.heap.size + 3) 9 1 (.slice a8 (kn + 1) c8) (L.length + 1) (strC (L.map keyF) ++ [.string (keyF (o, l'))]) := by rw [← HKN.out, ← HK.out]; exact hown8
                  exact ⟨_, _, _, _, HS5.out.fresh (c := (o, l')) hkl HCX.out hcL HLN.out HCN.out.1 HO6.out hown9 hgr8 (hloc8.imp id fun h9 => h9.trans (by simp [hz5])) hm10 hg10⟩
                have lq8 : wq.heap.size + 2 < w8.heap.size := lt_of_block kq
                clear past k0 k1 kq n0 nq m8 m9 hm10 hg10 hown8 hgr8 hloc8
                go_wp2
                go_roundw
                case rel => exact ⟨k + 1, by omega, by go_num, HF.out⟩
                case measure => simp [intOf]; omega
    · have hkn0 : k = n := by omega
      have HMX : Hid (∀ c, c ∈ L ↔ Lab.cleaned blt x c) := fun c => by
        have h9 := HS.out.mem c
        rw [List.take_of_length_le (by have := HN.out; omega)] at h9
        rw [h9, ← clean_plain, List.mem_map]
      obtain ⟨ko, kc, hkv⟩ := slice_of HS.out.own
      obtain ⟨kn, hkn⟩ : ∃ kn, kn = L.length := ⟨_, rfl⟩
      rw [← hkn] at hkv
      subst hkv
      have HKN : Hid (kn = L.length) := hkn
      have HLP : Hid (∀ c ∈ L, ∃ p ∈ x, plainF p = c) := fun c hc => by
        obtain ⟨p, hp, e⟩ := (HS.out.mem c).1 hc
        exact ⟨p, List.mem_of_mem_take hp, e⟩
      have hkn6 : kn ≤ 1000 := by
        have h9 := nst_few HS.out HSIX.out HOF.out
        omega
      have HL6 : Hid (∀ c ∈ L, NamedP c ∧ c.2.length ≤ 6 ∧ Lab.Of ls c) := fun c hc => by
        obtain ⟨p, hp, e⟩ := HLP.out c hc
        rw [← e]; exact ⟨(HNM.out p hp).2.1, (HNM.out p hp).2.2, of_plain (HOF.out p hp)⟩
      have hcall := sortKeys w wr x L k kn kc ko val f HS.out hkn hkn6 (fun c hc => keyF_size (HL6.out c hc).1 (HL6.out c hc).2.1) (fun c hc => (HL6.out c hc).2.1)
      have b1 : wr.cell? ⟨w.heap.size + 2, 0, none⟩ = some (.slice ko kn kc) := by simp [World.cell?, HS.out.bx1]
      have lb1 : w.heap.size + 2 < wr.heap.size := lt_of_block HS.out.bx1
      have hmf : ∀ (fn : Fn) (first cap : Array Value) (w : World), (Instr.makeFunc fn first cap).run Tryz.prog w = .ok (.func fn first cap) w := fun _ _ _ _ => rfl
      clear hkn hkn0
      go_wp2_with fail
      refine hcall.mono ?_
      rintro e wS ⟨rfl, hpost⟩
      obtain ⟨R, hperm, hsort, hownS, hgrS⟩ := hpost
      have hlow : ∀ j, (Value.slice ko kn kc).ownBlock = some j → w.heap.size + 3 ≤ j := fun j he => (HS.out.own.lt _ he).1
      have HBS : Hid (Below w.heap.size w wS) := HS.out.bel.grown hgrS HS.out.bel.size (fun j he => by have := hlow j he; omega)
      have HX0 : Hid (wS.heap[w.heap.size + 1]? = some (.cells #[.map (some w.heap.size)] 71 (0, 0))) := (hgrS.block _ (lt_of_block HS.out.bx0) (fun he => by have := hlow _ he.symm; omega)).trans HS.out.bx0
      have HX1 : Hid (wS.heap[w.heap.size + 2]? = some (.cells #[.slice ko kn kc] 22 (0, 0))) := (hgrS.block _ (lt_of_block HS.out.bx1) (fun he => by have := hlow _ he.symm; omega)).trans HS.out.bx1
      have HMAP : Hid (MapV wS w.heap.size k f) := HS.out.map.kept hgrS (fun he => by have := hlow _ he.symm; omega)
      have HRL : Hid (R.length = kn) := by show _ = _; rw [hperm.length_eq, HKN.out]
      have HRM : Hid (∀ c, c ∈ R ↔ Lab.cleaned blt x c) := fun c => (hperm.mem_iff).trans (HMX.out c)
      have HRI : Hid (∀ c ∈ R, NamedP c ∧ c.2.length ≤ 6 ∧ Lab.Of ls c ∧ ReadersAt wS (val c) c.2 ∧ f (keyF c) = some (.agg #[.string c.1, val c])) := fun c hc => by
        have hcL := hperm.mem_iff.1 hc
        obtain ⟨q1, q2, q3⟩ := HL6.out c hcL
        obtain ⟨ro, rb, roff, rc, e1, e2, e3, e4, e5⟩ := HS.out.off c hcL
        exact ⟨q1, q2, q3, ⟨ro, rb, roff, rc, e1, e2, e3, strs_kept e4 hgrS (fun hp => (e5 hp).2)⟩, HS.out.hit c hcL⟩
      have HSR : Hid (∃ g, Strs wS ko g 0 (R.map keyF)) := by
        obtain ⟨ro, rb, roff, rc, e1, _, _, e4, _⟩ := offB_new (o := ⟨#[]⟩) (l := R.map keyF) (g := none) (b0 := 0) hownS (by rw [List.length_map]; exact HRL.out.symm) (fun _ h => by cases h) (Nat.zero_le _)
        simp only at e1 e4
        injection e1 with e5 e6 e7
        rw [e5]
        rcases hownS.2 with ⟨hv, h0⟩ | ⟨g, c0, cur, hv, h1, h2, h3, h4, h5, h6'⟩
        · have e : R = [] := List.length_eq_zero_iff.1 (by rw [HRL.out]; exact h0)
          subst e
          exact ⟨0, Strs.nil _ _⟩
        · injection hv with hv1 hv2 hv3
          refine ⟨g, fun _ => by rw [← e5]; exact hv1, fun j hj => ?_, fun _ => lt_of_block h2⟩
          have e8 : (strC (R.map keyF))[j]? = some (.string (R.map keyF)[j]) := by simp [strC, show j < R.length by simpa using hj]
          rw [← h6', Nat.mul_one, List.getElem?_take_of_lt (by rw [← HRL.out]; simpa using hj), Array.getElem?_toList] at e8
          simp [World.cell?, h2, e8]
      obtain ⟨gS, hSR⟩ := HSR.out
      have HST : Hid (Strs wS ko gS 0 (R.map keyF)) := hSR
      have HSO : Hid (R.Pairwise plt) := hsort
      clear hcall hperm hsort hownS hgrS hlow HS HL6 HLP HMX HKN HNM HOF H6 b1 lb1 hSR HSR HX HN
      have b1 : wS.cell? ⟨w.heap.size + 2, 0, none⟩ = some (.slice ko kn kc) := by simp [World.cell?, HX1.out]
      have lb1 : w.heap.size + 2 < wS.heap.size := lt_of_block HX1.out
      obtain ⟨cov, hcov⟩ : ∃ cov, cov = Lab.coversB ls ps := ⟨_, rfl⟩
      have HCOV : Hid (cov = Lab.coversB ls ps) := hcov
      obtain ⟨i0, hi, hz0, hz1, hz2⟩ := info_parts Tryz.infoPolD
      clear hcov
      go_wp2
      go_loopw [16, 95] (fun v i wr => ∃ j : Nat, j ≤ kn ∧ i = .int .i64 j ∧ Hid (Below wS.heap.size wS wr ∧ wr.ownsRow wS.heap.size 63 2 v (outF cov R val j).length (polC (outF cov R val j)))) (fun _ i _ => kn - (intOf i).toNat)
      case atStart => exact ⟨0, Nat.zero_le _, rfl, Below.refl _ _, World.ownsRow_nil _ _ _ _⟩
      case round =>
        clear b1 lb1
        obtain ⟨j, hj, rfl, HT⟩ := hrel
        have hX1 := (HT.out.1.block _ (lt_of_block HX1.out)).trans HX1.out
        have hX0 := (HT.out.1.block _ (lt_of_block HX0.out)).trans HX0.out
        have b1 : wr.cell? ⟨w.heap.size + 2, 0, none⟩ = some (.slice ko kn kc) := by simp [World.cell?, hX1]
        have b0 : wr.cell? ⟨w.heap.size + 1, 0, none⟩ = some (.map (some w.heap.size)) := by simp [World.cell?, hX0]
        have lb1 : w.heap.size + 2 < wr.heap.size := lt_of_block hX1
        have lb0 : w.heap.size + 1 < wr.heap.size := lt_of_block hX0
        clear hX1 hX0
        by_cases hlt2 : j < kn
        · have hjl : j < R.length := by have := HRL.out; omega
          have hjm : j < (R.map keyF).length := by rw [List.length_map]; exact hjl
          have hko := HST.out.adr (by omega)
          have r0 := (HST.out.later HT.out.1).cell j hjm
          rw [List.getElem_map, Nat.zero_add] at r0
          have lg : gS < wr.heap.size := (HST.out.later HT.out.1).lt (by omega)
          have hqi := HRI.out _ (List.getElem_mem hjl)
          have hgd : R.getD j (⟨#[]⟩, []) = R[j] := by simp [hjl]
          obtain ⟨q, hq⟩ : ∃ q, q = R[j] := ⟨_, rfl⟩
          rw [← hq] at r0 hqi hgd
          have HGD : Hid (R.getD j (⟨#[]⟩, []) = q) := hgd
          obtain ⟨K, hK⟩ : ∃ K, K = keyF q := ⟨_, rfl⟩
          have hKz : K.size ≤ maxLen := by rw [hK]; have := keyF_size hqi.1 hqi.2.1; unfold maxLen; omega
          have hm := HMAP.out.kept (row := none) (gbelow HT.out.1) (by simp)
          have hlk := hm.hit unPol (zeroPolZ _) hKz (by rw [hK]; exact hqi.2.2.2.2)
          rw [← hK] at r0
          obtain ⟨qo, qrs⟩ := q
          obtain ⟨ro, rb, roff, rc, hv1, hv2, hv3, hv4⟩ := hqi.2.2.2.1
          obtain ⟨qv, hqv⟩ : ∃ qv, qv = val (qo, qrs) := ⟨_, rfl⟩
          simp only at hv1 hv2 hv4 hlk
          rw [hv1] at hlk
          obtain ⟨qn, hqn⟩ : ∃ qn, qn = qrs.length := ⟨_, rfl⟩
          rw [← hqn] at hlk
          have HQV : Hid (val (qo, qrs) = .slice ro qn rc) := by show _ = _; rw [hv1, hqn]
          have HQI : Hid (NamedP (qo, qrs) ∧ qrs.length ≤ 6 ∧ Lab.Of ls (qo, qrs) ∧ ReadersAt wS (.slice ro qn rc) qrs) := ⟨hqi.1, hqi.2.1, hqi.2.2.1, by have h9 := hqi.2.2.2.1; simp only at h9; rw [hv1] at h9; rw [hqn]; exact h9⟩
          obtain ⟨ov, ocap, hov⟩ := slice_of HT.out.2
          obtain ⟨on, hon⟩ : ∃ on, on = (outF cov R val j).length := ⟨_, rfl⟩
          rw [← hon] at hov
          subst hov
          have HON : Hid (on = (outF cov R val j).length) := hon
          have hon6 : on ≤ j := by rw [hon]; exact out_len cov R val j
          have HOW : Hid (wr.ownsRow wS.heap.size 63 2 (.slice ov on ocap) on (polC (outF cov R val j))) := by have h9 := HT.out.2; rw [← hon] at h9; exact h9
          have HBT : Hid (Below wS.heap.size wS wr) := HT.out.1
          obtain ⟨wy, hwy⟩ : ∃ wy, wy = wr.alloc (.cells #[.string qo, .slice ro qn rc] 63) := ⟨_, rfl⟩
          have hby : Below wr.heap.size wr wy := by rw [hwy]; exact (Below.refl _ _).alloc (Nat.le_refl _) _
          have HBY : Hid (Below wr.heap.size wr wy) := hby
          have HQB : Hid (wy.heap[wr.heap.size]? = some (.cells #[.string qo, .slice ro qn rc] 63 (0, 0))) := by show _ = _; rw [hwy]; exact heap_at_alloc _ _ _ rfl
          have HWY : Hid (wy = wr.alloc (.cells #[.string qo, .slice ro qn rc] 63)) := hwy
          have HHJ : Hid (j < R.length) := hjl
          clear hq hK hm hqi hv1 hv2 hv4 hqv hqn hon hwy hby hgd HT hjm
          subst hko
          have y1 : wy.cell? ⟨w.heap.size + 2, 0, none⟩ = some (.slice (some ⟨gS, 0, none⟩) kn kc) := (HBY.out.cell (p := ⟨w.heap.size + 2, 0, none⟩) lb1).trans b1
          have ly1 : w.heap.size + 2 < wy.heap.size := Nat.lt_of_lt_of_le lb1 HBY.out.size
          go_wp2
          rw [← HWY.out]
          clear HWY hlk r0 b0 b1 y1 ly1
          obtain ⟨wq, hwq⟩ : ∃ wq, wq = wr := ⟨wr, rfl⟩
          subst hwq
          go_loopw [20, 105] (fun s i wx => ∃ k2 : Nat, k2 ≤ kn ∧ i = .int .i64 k2 ∧ s = .bool (stayF cov R j k2) ∧ Hid (Below wy.heap.size wy wx)) (fun _ i _ => kn - (intOf i).toNat)
          case atStart => exact ⟨0, Nat.zero_le _, rfl, by simp [stayF], Below.refl _ _⟩
          case round =>
            obtain ⟨k2, hk2, rfl, rfl, HBX⟩ := hrel
            have HBW : Hid (Below wq.heap.size wq wr) := HBY.out.trans (HBX.out.mono HBY.out.size)
            have HBWS : Hid (Below wS.heap.size wS wr) := HBT.out.trans (HBW.out.mono HBT.out.size)
            have kq := (HBX.out.block _ (lt_of_block HQB.out)).trans HQB.out
            have q0 : wr.cell? ⟨wq.heap.size, 0, none⟩ = some (.string qo) := by simp [World.cell?, kq]
            have q1 : wr.cell? ⟨wq.heap.size, 1, none⟩ = some (.slice ro qn rc) := by simp [World.cell?, kq]
            have lq : wq.heap.size < wr.heap.size := lt_of_block kq
            by_cases hlt3 : k2 < kn
            · have hkl : k2 < R.length := by have := HRL.out; omega
              have hkm : k2 < (R.map keyF).length := by rw [List.length_map]; exact hkl
              have r0 := (HST.out.later HBWS.out).cell k2 hkm
              rw [List.getElem_map, Nat.zero_add] at r0
              have lg2 : gS < wr.heap.size := (HST.out.later HBWS.out).lt (by omega)
              have hpi := HRI.out _ (List.getElem_mem hkl)
              have hX0 := (HBWS.out.block _ (lt_of_block HX0.out)).trans HX0.out
              have b0 : wr.cell? ⟨w.heap.size + 1, 0, none⟩ = some (.map (some w.heap.size)) := by simp [World.cell?, hX0]
              have lb0' : w.heap.size + 1 < wr.heap.size := lt_of_block hX0
              have hgd : R.getD k2 (⟨#[]⟩, []) = R[k2] := by simp [hkl]
              obtain ⟨p, hp⟩ : ∃ p, p = R[k2] := ⟨_, rfl⟩
              rw [← hp] at r0 hpi hgd
              obtain ⟨K2, hK2⟩ : ∃ K2, K2 = keyF p := ⟨_, rfl⟩
              have hKz2 : K2.size ≤ maxLen := by rw [hK2]; have := keyF_size hpi.1 hpi.2.1; unfold maxLen; omega
              have hm := HMAP.out.kept (row := none) (gbelow HBWS.out) (by simp)
              have hlk := hm.hit unPol (zeroPolZ _) hKz2 (by rw [hK2]; exact hpi.2.2.2.2)
              rw [← hK2] at r0
              obtain ⟨t1, ht1⟩ : ∃ t1, t1 = cov p (qo, qrs) := ⟨_, rfl⟩
              obtain ⟨t2, ht2⟩ : ∃ t2, t2 = cov (qo, qrs) p := ⟨_, rfl⟩
              have hbad : badB cov R j k2 = (decide (k2 ≠ j) && (t1 && (!t2 || decide (k2 < j)))) := by
                unfold badB
                rw [hgd, HGD.out, ← ht1, ← ht2]
              have HSTP : Hid (stayF cov R j (k2 + 1) = (stayF cov R j k2 && !(decide (k2 ≠ j) && (t1 && (!t2 || decide (k2 < j)))))) := by show _ = _; rw [stay_step, hbad]
              obtain ⟨po', prs⟩ := p
              obtain ⟨ro2, rb2, roff2, rc2, hw1, hw2, hw3, hw4⟩ := hpi.2.2.2.1
              simp only at hw1 hw2 hw4 hlk
              rw [hw1] at hlk
              obtain ⟨pn, hpn⟩ : ∃ pn, pn = prs.length := ⟨_, rfl⟩
              rw [← hpn] at hlk
              obtain ⟨wv, hwv⟩ : ∃ wv, wv = wr.alloc (.cells #[.string po', .slice ro2 pn rc2] 63) := ⟨_, rfl⟩
              have hbv : Below wr.heap.size wr wv := by rw [hwv]; exact (Below.refl _ _).alloc (Nat.le_refl _) _
              have HBV : Hid (Below wr.heap.size wr wv) := hbv
              have HPR : Hid (ReadersAt wS (.slice ro2 pn rc2) prs) := by have h9 := hpi.2.2.2.1; simp only at h9; rw [hw1] at h9; show ReadersAt _ _ _; rw [hpn]; exact h9
              have HCA : Hid (∀ W', Below wr.heap.size wr W' → Calls Tryz.prog 29 #[.slice po m d, .agg #[.string po', .slice ro2 pn rc2], .agg #[.string qo, .slice ro qn rc]] W' fun e w' => e = .returned (.bool t1) ∧ Below W'.heap.size W' w') := fun W' hb => by
                have hbb := HBWS.out.trans (hb.mono HBWS.out.size)
                have h9 := coversR po b off m d ls ps (po', prs) (qo, qrs) (.slice ro2 pn rc2) (.slice ro qn rc) W' (HP.out.later (HBS.out.trans (hbb.mono HBS.out.size))) HR.out hpi.2.2.1 HQI.out.2.2.1 (HPR.out.later hbb) (HQI.out.2.2.2.later hbb) (by have := hpi.2.1; simp only at this ⊢; omega) (by have := HQI.out.2.1; simp only at this ⊢; omega)
                rw [← HCOV.out, ← ht1] at h9
                exact h9
              have HCB : Hid (∀ W', Below wr.heap.size wr W' → Calls Tryz.prog 29 #[.slice po m d, .agg #[.string qo, .slice ro qn rc], .agg #[.string po', .slice ro2 pn rc2]] W' fun e w' => e = .returned (.bool t2) ∧ Below W'.heap.size W' w') := fun W' hb => by
                have hbb := HBWS.out.trans (hb.mono HBWS.out.size)
                have h9 := coversR po b off m d ls ps (qo, qrs) (po', prs) (.slice ro qn rc) (.slice ro2 pn rc2) W' (HP.out.later (HBS.out.trans (hbb.mono HBS.out.size))) HR.out HQI.out.2.2.1 hpi.2.2.1 (HQI.out.2.2.2.later hbb) (HPR.out.later hbb) (by have := HQI.out.2.1; simp only at this ⊢; omega) (by have := hpi.2.1; simp only at this ⊢; omega)
                rw [← HCOV.out, ← ht2] at h9
                exact h9
              have HWV : Hid (wv = wr.alloc (.cells #[.string po', .slice ro2 pn rc2] 63)) := hwv
              have kv2 : wv.heap[wr.heap.size]? = some (.cells #[.string po', .slice ro2 pn rc2] 63 (0, 0)) := by rw [hwv]; exact heap_at_alloc _ _ _ rfl
              have HKV : Hid (∀ W', Below wv.heap.size wv W' → W'.cell? ⟨wr.heap.size, 0, none⟩ = some (.string po') ∧ W'.cell? ⟨wr.heap.size, 1, none⟩ = some (.slice ro2 pn rc2) ∧ W'.cell? ⟨wq.heap.size, 0, none⟩ = some (.string qo) ∧ W'.cell? ⟨wq.heap.size, 1, none⟩ = some (.slice ro qn rc) ∧ wr.heap.size < W'.heap.size ∧ wq.heap.size < W'.heap.size) := fun W' hb => by
                have k8 := (hb.block _ (lt_of_block kv2)).trans kv2
                have k9 := (hb.block _ (Nat.lt_of_lt_of_le lq hbv.size)).trans ((hbv.block _ lq).trans kq)
                exact ⟨by simp [World.cell?, k8], by simp [World.cell?, k8], by simp [World.cell?, k9], by simp [World.cell?, k9], lt_of_block k8, lt_of_block k9⟩
              obtain ⟨s0, hs0⟩ : ∃ s0, s0 = stayF cov R j k2 := ⟨_, rfl⟩
              rw [← hs0] at HSTP ⊢
              clear hp hK2 hm hpi hX0 hgd hbad hw1 hw2 hw4 hpn hwv hbv kv2 ht1 ht2 hs0 kq hkm
              by_cases hji : k2 = j
              · have z0 : ((k2 : Int) == (j : Int)) = true := by simp [hji]
                have HE : Hid (stayF cov R j (k2 + 1) = s0) := by show _ = _; rw [HSTP.out]; simp [hji]
                have HBE : Hid (Below wy.heap.size wy wv) := HBX.out.trans (HBV.out.mono HBX.out.size)
                clear HSTP hji
                go_wp2
                rw [← HWV.out]
                go_roundw
                case rel => exact ⟨k2 + 1, by omega, by go_num, by rw [HE.out], HBE⟩
                case measure => simp [intOf]; omega
              · have z0 : ((k2 : Int) == (j : Int)) = false := by simp; omega
                have hcA := HCA.out wv HBV.out
                cases t1 with
                | false =>
                  have HE : Hid (stayF cov R j (k2 + 1) = s0) := by show _ = _; rw [HSTP.out]; simp
                  clear HSTP hji
                  go_wp2_with fail
                  rw [← HWV.out]
                  refine hcA.mono ?_
                  rintro e w6 ⟨rfl, hb6⟩
                  have HB6 : Hid (Below wy.heap.size wy w6) := (HBX.out.trans (HBV.out.mono HBX.out.size)).trans (hb6.mono (Nat.le_trans HBX.out.size HBV.out.size))
                  clear hb6 hcA
                  go_wp2
                  go_roundw
                  case rel => exact ⟨k2 + 1, by omega, by go_num, by rw [HE.out], HB6⟩
                  case measure => simp [intOf]; omega
                | true =>
                  go_wp2_with fail
                  rw [← HWV.out]
                  refine hcA.mono ?_
                  rintro e w6 ⟨rfl, hb6⟩
                  obtain ⟨u1, u2, u3, u4, u5, u6⟩ := HKV.out w6 hb6
                  have HB6 : Hid (Below wy.heap.size wy w6) := (HBX.out.trans (HBV.out.mono HBX.out.size)).trans (hb6.mono (Nat.le_trans HBX.out.size HBV.out.size))
                  have hcB := HCB.out w6 (HBV.out.trans (hb6.mono HBV.out.size))
                  clear hb6 hcA q0 q1
                  cases t2 with
                  | false =>
                    have HE : Hid (stayF cov R j (k2 + 1) = false) := by show _ = _; rw [HSTP.out]; simp [hji]
                    clear HSTP hji
                    go_wp2_with fail
                    refine hcB.mono ?_
                    rintro e w7 ⟨rfl, hb7⟩
                    have HB7 : Hid (Below wy.heap.size wy w7) := HB6.out.trans (hb7.mono HB6.out.size)
                    clear hb7 hcB
                    go_wp2
                    go_roundw
                    case rel => exact ⟨k2 + 1, by omega, by go_num, by rw [HE.out], HB7⟩
                    case measure => simp [intOf]; omega
                  | true =>
                    by_cases hkj : k2 < j
                    · have HE : Hid (stayF cov R j (k2 + 1) = false) := by show _ = _; rw [HSTP.out]; simp [hji, hkj]
                      have z1 : (k2 : Int) < (j : Int) := by omega
                      clear HSTP hji
                      go_wp2_with fail
                      refine hcB.mono ?_
                      rintro e w7 ⟨rfl, hb7⟩
                      have HB7 : Hid (Below wy.heap.size wy w7) := HB6.out.trans (hb7.mono HB6.out.size)
                      clear hb7 hcB
                      go_wp2
                      go_roundw
                      case rel => exact ⟨k2 + 1, by omega, by go_num, by rw [HE.out], HB7⟩
                      case measure => simp [intOf]; omega
                    · have HE : Hid (stayF cov R j (k2 + 1) = s0) := by show _ = _; rw [HSTP.out]; simp [hkj]
                      have z1 : ¬ ((k2 : Int) < (j : Int)) := by omega
                      clear HSTP hji
                      go_wp2_with fail
                      refine hcB.mono ?_
                      rintro e w7 ⟨rfl, hb7⟩
                      have HB7 : Hid (Below wy.heap.size wy w7) := HB6.out.trans (hb7.mono HB6.out.size)
                      clear hb7 hcB
                      go_wp2
                      go_roundw
                      case rel => exact ⟨k2 + 1, by omega, by go_num, by rw [HE.out], HB7⟩
                      case measure => simp [intOf]; omega
            · have hk2n : k2 = R.length := by have := HRL.out; omega
              have e9 : stayF cov R j k2 = stayF cov R j R.length := by rw [hk2n]
              rw [e9]
              have hos := out_step cov R val j
              rw [HGD.out, HQV.out] at hos
              have HOS : Hid (outF cov R val (j + 1) = outF cov R val j ++ (if stayF cov R j R.length = true then [((qo, qrs), .slice ro qn rc)] else [])) := hos
              obtain ⟨s0, hs0⟩ : ∃ s0, s0 = stayF cov R j R.length := ⟨_, rfl⟩
              rw [← hs0] at HOS ⊢
              have HOW2 : Hid (wr.ownsRow wS.heap.size 63 2 (.slice ov on ocap) on (polC (outF cov R val j))) := own_below HOW.out HBW.out
              have hbig : wS.heap.size ≤ wr.heap.size := HBWS.out.size
              clear hos hs0 hk2n kq e9
              cases s0 with
              | false =>
                have HE : Hid (outF cov R val (j + 1) = outF cov R val j) := by show _ = _; rw [HOS.out]; simp
                clear HOS
                go_wp2
                go_roundw
                case rel => exact ⟨j + 1, by omega, by go_num, HBWS.out, by rw [HE.out, ← HON.out]; exact HOW2.out⟩
                case measure => simp [intOf]; omega
              | true =>
                have HE : Hid (outF cov R val (j + 1) = outF cov R val j ++ [((qo, qrs), .slice ro qn rc)]) := by show _ = _; rw [HOS.out]; simp
                clear HOS
                go_wp2_with (at_builtin; refine wpList_append_own _ rfl _ _ 34 rfl wS.heap.size 63 i0 (.agg #[.string ⟨#[]⟩, .slice none 0 0]) 2 40 Tryz.underlying34 hi hz0 hz1 hz2 rfl (by decide) _ _ _ rfl (World.ownsRow.alloc HOW2.out _) ⟨wr.heap.size, 0, none⟩ 1 1 [.string qo, .slice ro qn rc] rfl rfl ?c1 ?c2 ?c3 ?c4 ?c5 ?_)
                case c1 => exact two_new _ _ _ _
                case c2 => intro u hu; simp at hu; rcases hu with rfl | rfl <;> rfl
                case c3 => unfold maxLen; omega
                case c4 => omega
                case c5 => simp; omega
                · intro v2 w3 hown3 hgrow3 _
                  have hlo : ∀ k, (Value.slice ov on ocap).ownBlock = some k → wS.heap.size ≤ k := fun k he => (HOW2.out.lt _ he).1
                  have HF : Hid (Below wS.heap.size wS w3 ∧ w3.ownsRow wS.heap.size 63 2 v2 (outF cov R val (j + 1)).length (polC (outF cov R val (j + 1)))) := by
                    refine ⟨(HBWS.out.alloc HBWS.out.size _).grown hgrow3 (by simp; omega) (fun k he => hlo k he), ?_⟩
                    rw [HE.out, List.length_append, ← HON.out, ← polC_snoc]
                    exact hown3
                  clear hown3 hgrow3 hlo
                  go_wp2
                  go_roundw
                  case rel => exact ⟨j + 1, by omega, by go_num, HF.out⟩
                  case measure => simp [intOf]; omega
        · have hjn : j = R.length := by have := HRL.out; omega
          have HF : Hid (∃ (y : List Pol), Lab.Norm blt plt ps x y ∧ LabNew wr w.heap.size u16 y ∧ Below w.heap.size w wr) := by
            refine ⟨(outF cov R val j).map (·.1), ?_, ⟨outF cov R val j, rfl, by rw [List.length_map]; exact ownsRow_le' HT.out.2 HBS.out.size, fun z hz => ?_⟩, HBS.out.trans (HT.out.1.mono HBS.out.size)⟩
            · rw [hjn]
              refine norm_out HRM.out HSO.out (fun a ha c hc => ?_)
              rw [HCOV.out]
              exact Lab.covers_iff HR.out (HRI.out a ha).2.2.1 (HRI.out c hc).2.2.1
            · obtain ⟨e1, e2⟩ := out_sub (by omega) z hz
              rw [e2]
              exact (HRI.out _ e1).2.2.2.1.later HT.out.1
          clear hjn HT
          go_wp2
          go_ret
          obtain ⟨y, h9⟩ := HF.out
          exact ⟨u16, y, rfl, h9⟩
end Go.Proofs.YtpbknhhjfhpkmaaGreatDoor

namespace Go.Proofs.YtpbknhhjfhpkmaaGreatDoor
open Go.RowKit

/- What the loop over the label holds. -/
def LfSt (w wr : World) (v : Value) (l : List Pol) : Prop := Below w.heap.size w wr ∧ ∃ O : List PV, O.map (·.1) = l ∧ wr.ownsRow w.heap.size 63 2 v O.length (polC O) ∧ ∀ y ∈ O, ReadersAt w y.2 y.1.2

set_option maxRecDepth 100000 in
set_option maxHeartbeats 4000000 in
theorem lessOf (po xo vo : Option Addr) (b off m d xb xoff n c vb voff vn vc : Nat) (ls : List ByteArray) (ps : List (ByteArray × ByteArray)) (x : List Pol) (bs : List ByteArray) (w : World) (hp : Pairs w po b off m ps) (hr : Act.Right ls ps) (h66 : ls.length ≤ 6) (hn : n = x.length) (hm : n ≤ 100000) (hx : Pols w xo xb xoff x) (hof : Lab.OfL ls x) (hnm : ∀ s ∈ ls, Lex.nameF s.data.toList = true) (h6 : ∀ p ∈ x, p.2.length ≤ 6)
    (hvn : vn = bs.length) (hvm : vn ≤ 1000) (hv : Strs w vo vb voff bs) (hbs : ∀ s ∈ bs, s ∈ ls) :
    Calls Tryz.prog 63 #[.slice po m d, .slice xo n c, .slice vo vn vc] w fun e w' => ∃ (v : Value) (y : List Pol), e = .returned v ∧ Lab.Norm blt plt ps (leftF ls ps x bs) y ∧ LabNew w' w.heap.size v y ∧ Below w.heap.size w w' := by
  have HP : Hid (Pairs w po b off m ps) := hp
  have HR : Hid (Act.Right ls ps) := hr
  have HN : Hid (n = x.length) := hn
  have HX : Hid (Pols w xo xb xoff x) := hx
  have HOF : Hid (Lab.OfL ls x) := hof
  have HNM : Hid (∀ s ∈ ls, Lex.nameF s.data.toList = true) := hnm
  have H6 : Hid (∀ p ∈ x, p.2.length ≤ 6) := h6
  have HVN : Hid (vn = bs.length) := hvn
  have HV : Hid (Strs w vo vb voff bs) := hv
  have HBS : Hid (∀ s ∈ bs, s ∈ ls) := hbs
  obtain ⟨i0, hi, hz0, hz1, hz2⟩ := info_parts Tryz.infoPolD
  clear hp hr hn hx hof hnm h6 hvn hv hbs
  go_enter Tryz.func63, Tryz.ntmps63
  go_wp2
  go_loopw [7, 15] (fun v i wr => ∃ k : Nat, k ≤ n ∧ i = .int .i64 k ∧ Hid (LfSt w wr v (leftF ls ps (x.take k) bs))) (fun _ i _ => n - (intOf i).toNat)
  case atStart => exact ⟨0, Nat.zero_le _, rfl, Below.refl _ _, [], rfl, World.ownsRow_nil _ _ _ _, fun y hy => by cases hy⟩
  case round =>
    obtain ⟨k, hk, rfl, HS⟩ := hrel
    obtain ⟨hbel, O, hO, hown, hrd⟩ := HS.out
    have HB : Hid (Below w.heap.size w wr) := hbel
    have HO : Hid (O.map (·.1) = leftF ls ps (x.take k) bs) := hO
    have HRD : Hid (∀ y ∈ O, ReadersAt w y.2 y.1.2) := hrd
    obtain ⟨ao', cap', hv7⟩ := slice_of hown
    obtain ⟨N, hN⟩ : ∃ N, N = O.length := ⟨_, rfl⟩
    rw [← hN] at hv7 hown
    subst hv7
    have HNO : Hid (N = O.length) := hN
    have hNk : N ≤ k := by
      rw [hN]
      have h9 := congrArg List.length hO
      rw [List.length_map] at h9
      have h8 : (leftF ls ps (x.take k) bs).length ≤ (x.take k).length := List.length_filter_le _ _
      rw [List.length_take] at h8
      omega
    have HOW : Hid (wr.ownsRow w.heap.size 63 2 (.slice ao' N cap') N (polC O)) := hown
    clear HS hbel hO hown hrd hN
    by_cases hlt : k < n
    · have hkl : k < x.length := by have := HN.out; omega
      have hX := HX.out.later HB.out
      have hao := hX.adr (by omega)
      have f0 := hX.c0 k hkl
      obtain ⟨pv, f1, hv⟩ := hX.c1 k hkl
      obtain ⟨pv', f1', hv'⟩ := HX.out.c1 k hkl
      have hpe : pv = pv' := by
        have h9 := (HB.out.cell (p := ⟨xb, xoff + k * 2 + 1, none⟩) (HX.out.lt (by omega))).trans f1'
        rw [f1] at h9
        exact Option.some.inj h9
      subst hpe
      have hst := left_step (ls := ls) (ps := ps) (bs := bs) hkl
      have hofp := HOF.out _ (List.getElem_mem hkl)
      obtain ⟨p, hp⟩ : ∃ p, p = x[k] := ⟨_, rfl⟩
      rw [← hp] at f0 hv hst hofp hv'
      obtain ⟨o, rs⟩ := p
      simp only at f0 hv hv' hofp
      obtain ⟨ro, rc, rn, hv0⟩ : ∃ ro rc rn, pv = .slice ro rn rc := by obtain ⟨ro, _, _, rc, h, _⟩ := hv; exact ⟨ro, rc, _, h⟩
      subst hv0
      have HRP : Hid (ReadersAt w (.slice ro rn rc) rs) := hv'
      have HOP : Hid (o ∈ ls) := hofp.1
      have HST : Hid (leftF ls ps (x.take (k + 1)) bs = leftF ls ps (x.take k) bs ++ (if goesB ls ps bs (o, rs) = true then [] else [(o, rs)])) := hst
      obtain ⟨wy, hwy⟩ : ∃ wy, wy = wr.alloc (.cells #[.string o, .slice ro rn rc] 63) := ⟨_, rfl⟩
      have hby : Below wr.heap.size wr wy := by rw [hwy]; exact (Below.refl _ _).alloc (Nat.le_refl _) _
      have HBY : Hid (Below wr.heap.size wr wy) := hby
      have HQB : Hid (wy.heap[wr.heap.size]? = some (.cells #[.string o, .slice ro rn rc] 63 (0, 0))) := by show _ = _; rw [hwy]; exact heap_at_alloc _ _ _ rfl
      have HWY : Hid (wy = wr.alloc (.cells #[.string o, .slice ro rn rc] 63)) := hwy
      clear hX hp hv hv' f1' hst hofp hby hwy
      subst hao
      go_wp2
      rw [← HWY.out]
      clear f0 f1 HWY
      obtain ⟨wq, hwq⟩ : ∃ wq, wq = wr := ⟨wr, rfl⟩
      subst hwq
      go_loopw [10, 21] (fun s i wx => ∃ j : Nat, j ≤ vn ∧ i = .int .i64 j ∧ s = .bool ((bs.take j).any fun a => Act.acts ls ps a o) ∧ Hid (Below wy.heap.size wy wx)) (fun _ i _ => vn - (intOf i).toNat)
      case atStart => exact ⟨0, Nat.zero_le _, rfl, by simp, Below.refl _ _⟩
      case round =>
        obtain ⟨j, hj, rfl, rfl, HBX⟩ := hrel
        have HBQ : Hid (Below wq.heap.size wq wr) := HBY.out.trans (HBX.out.mono HBY.out.size)
        have HBW : Hid (Below w.heap.size w wr) := HB.out.trans (HBQ.out.mono HB.out.size)
        have kq := (HBX.out.block _ (lt_of_block HQB.out)).trans HQB.out
        have q0 : wr.cell? ⟨wq.heap.size, 0, none⟩ = some (.string o) := by simp [World.cell?, kq]
        have q1 : wr.cell? ⟨wq.heap.size, 1, none⟩ = some (.slice ro rn rc) := by simp [World.cell?, kq]
        have lq : wq.heap.size < wr.heap.size := lt_of_block kq
        by_cases hlt2 : j < vn
        · have hjl : j < bs.length := by have := HVN.out; omega
          have hvo := HV.out.adr (by omega)
          have r0 := (HV.out.later HBW.out).cell j hjl
          have lv : vb < wr.heap.size := (HV.out.later HBW.out).lt (by omega)
          have hsm := HBS.out _ (List.getElem_mem hjl)
          have htk : ((bs.take (j + 1)).any fun a => Act.acts ls ps a o) = (((bs.take j).any fun a => Act.acts ls ps a o) || Act.acts ls ps bs[j] o) := by
            rw [List.take_succ_eq_append_getElem hjl, List.any_append, List.any_cons, List.any_nil, Bool.or_false]
          obtain ⟨s, hs⟩ : ∃ s, s = bs[j] := ⟨_, rfl⟩
          rw [← hs] at r0 hsm htk
          have hcall := actsB po b off m d ls ps s o wr (HP.out.later HBW.out) HR.out hsm HOP.out
          obtain ⟨t, ht⟩ : ∃ t, t = Act.acts ls ps s o := ⟨_, rfl⟩
          obtain ⟨s0, hs0⟩ : ∃ s0, s0 = (bs.take j).any fun a => Act.acts ls ps a o := ⟨_, rfl⟩
          rw [← ht] at hcall
          rw [← ht, ← hs0] at htk
          rw [← hs0]
          have HTK : Hid (((bs.take (j + 1)).any fun a => Act.acts ls ps a o) = (s0 || t)) := htk
          clear hs ht hs0 htk hsm kq
          subst hvo
          cases s0 with
          | true =>
            go_wp2
            go_roundw
            case rel => exact ⟨j + 1, by omega, by go_num, by rw [HTK.out]; rfl, HBX⟩
            case measure => simp [intOf]; omega
          | false =>
            go_wp2_with fail
            refine hcall.mono ?_
            rintro e w2 ⟨rfl, hb2⟩
            have HB2 : Hid (Below wy.heap.size wy w2) := HBX.out.trans (hb2.mono HBX.out.size)
            clear hb2 hcall
            go_wp2
            go_roundw
            case rel => exact ⟨j + 1, by omega, by go_num, by rw [HTK.out]; simp, HB2⟩
            case measure => simp [intOf]; omega
        · have e9 : ((bs.take j).any fun a => Act.acts ls ps a o) = goesB ls ps bs (o, rs) := by
            rw [List.take_of_length_le (by have := HVN.out; omega)]; rfl
          rw [e9]
          obtain ⟨s0, hs0⟩ : ∃ s0, s0 = goesB ls ps bs (o, rs) := ⟨_, rfl⟩
          rw [← hs0] at HST ⊢
          have HOW2 : Hid (wr.ownsRow w.heap.size 63 2 (.slice ao' N cap') N (polC O)) := own_below HOW.out HBQ.out
          have hbig : w.heap.size ≤ wr.heap.size := HBW.out.size
          clear hs0 e9 kq
          cases s0 with
          | true =>
            have HF : Hid (LfSt w wr (.slice ao' N cap') (leftF ls ps (x.take (k + 1)) bs)) := ⟨HBW.out, O, by rw [HST.out, HO.out]; simp, by rw [← HNO.out]; exact HOW2.out, HRD.out⟩
            go_wp2
            go_roundw
            case rel => exact ⟨k + 1, by omega, by go_num, HF⟩
            case measure => simp [intOf]; omega
          | false =>
            go_wp2_with (at_builtin; refine wpList_append_own _ rfl _ _ 34 rfl w.heap.size 63 i0 (.agg #[.string ⟨#[]⟩, .slice none 0 0]) 2 40 Tryz.underlying34 hi hz0 hz1 hz2 rfl (by decide) _ _ _ rfl (World.ownsRow.alloc HOW2.out _) ⟨wr.heap.size, 0, none⟩ 1 1 [.string o, .slice ro rn rc] rfl rfl ?c1 ?c2 ?c3 ?c4 ?c5 ?_)
            case c1 => exact two_new _ _ _ _
            case c2 => intro u hu; simp at hu; rcases hu with rfl | rfl <;> rfl
            case c3 => unfold maxLen; omega
            case c4 => omega
            case c5 => simp; omega
            · intro v2 w3 hown3 hgrow3 _
              have hlo : ∀ k, (Value.slice ao' N cap').ownBlock = some k → w.heap.size ≤ k := fun k he => (HOW2.out.lt _ he).1
              have HF : Hid (LfSt w w3 v2 (leftF ls ps (x.take (k + 1)) bs)) := by
                refine ⟨(HBW.out.alloc HBW.out.size _).grown hgrow3 (by simp; omega) (fun k he => hlo k he), O ++ [((o, rs), .slice ro rn rc)], by rw [List.map_append, HST.out, HO.out]; simp, ?_, fun y hy => ?_⟩
                · rw [List.length_append, ← HNO.out, ← polC_snoc]
                  exact hown3
                · rcases List.mem_append.1 hy with hy | hy
                  · exact HRD.out y hy
                  · have e : y = ((o, rs), .slice ro rn rc) := by simpa using hy
                    rw [e]; exact HRP.out
              clear hown3 hgrow3 hlo
              go_wp2
              go_roundw
              case rel => exact ⟨k + 1, by omega, by go_num, HF⟩
              case measure => simp [intOf]; omega
    · obtain ⟨b2, off2, hP⟩ := pols_own HNO.out HOW.out (fun y hy => (HRD.out y hy).later HB.out)
      have hO' : O.map (·.1) = leftF ls ps x bs := by rw [HO.out, List.take_of_length_le (by have := HN.out; omega)]
      have hmem : ∀ p ∈ O.map (·.1), p ∈ x := fun p hp => by rw [hO'] at hp; exact (List.mem_filter.1 hp).1
      have hno := normalOf po ao' b off m d b2 off2 N cap' ls ps (O.map (·.1)) wr (HP.out.later HB.out) HR.out h66 (by rw [List.length_map]; exact HNO.out) (by omega) hP (fun p hp => HOF.out p (hmem p hp)) HNM.out (fun p hp => H6.out p (hmem p hp))
      rw [hO'] at hno
      clear hP hO' hmem
      go_wp2_with fail
      refine hno.mono ?_
      rintro e w2 ⟨v, y, rfl, hy, hl, hb2⟩
      have HF : Hid (Lab.Norm blt plt ps (leftF ls ps x bs) y ∧ LabNew w2 w.heap.size v y ∧ Below w.heap.size w w2) := ⟨hy, by
        obtain ⟨M, k1, k2, k3⟩ := hl
        exact ⟨M, k1, ownsRow_le' k2 HB.out.size, k3⟩, HB.out.trans (hb2.mono HB.out.size)⟩
      clear hy hl hb2 hno
      go_wp2
      go_ret
      exact ⟨v, y, rfl, HF.out⟩
end Go.Proofs.YtpbknhhjfhpkmaaGreatDoor
