/- Contract of label.plain. slices.Compare at rows of strings, cmp.Or at two numbers, label.compare. -/
import Derived.Test.YtpbknhhjfhpkmaaGreatDoorGaOrd
import Derived.Test.YtpbknhhjfhpkmaaGreatDoorShelfS
import Derived.Test.YtpbknhhjfhpkmaaGreatDoorOwnC
import Derived.Test.YtpbknhhjfhpkmaaGreatDoorGaFn
import Derived.Sort.OwnSorted
import Derived.Lib.RowBridge
import Derived.Sort.Grow
import Derived.Deep.RegionHeld3
namespace Go.Proofs.YtpbknhhjfhpkmaaGreatDoor
open Go.RowKit Go.Sort

/- Readers that lie in memory laid since. -/
def ReadersNew (w : World) (base : Nat) (v : Value) (rs : List ByteArray) : Prop := ∃ ro rb roff rc, v = .slice ro rs.length rc ∧ rs.length ≤ rc ∧ rc ≤ maxLen ∧ Strs w ro rb roff rs ∧ (0 < rs.length → base ≤ rb)
theorem ReadersNew.at' {w : World} {base : Nat} {v : Value} {rs : List ByteArray} (h : ReadersNew w base v rs) : ReadersAt w v rs := by
  obtain ⟨ro, rb, roff, rc, h1, h2, h3, h4, _⟩ := h
  exact ⟨ro, rb, roff, rc, h1, h2, h3, h4⟩

structure PlSt (w wr : World) (v : Value) (l : List ByteArray) (o : ByteArray) (pv : Value) : Prop where
  bel : Below w.heap.size w wr
  box : wr.heap[w.heap.size]? = some (.cells #[.string o, pv] 63 (0, 0))
  res : wr.heap[w.heap.size + 1]? = some (.cells #[.string ⟨#[]⟩, .slice none 0 0] 63 (0, 0))
  own : wr.ownsRow (w.heap.size + 2) 9 1 v l.length (strC l)
theorem PlSt.later {w wr w1 : World} {v : Value} {l : List ByteArray} {o : ByteArray} {pv : Value} (h : PlSt w wr v l o pv) (hb : Below wr.heap.size wr w1) : PlSt w w1 v l o pv :=
  ⟨h.bel.trans (hb.mono h.bel.size), (hb.block _ (lt_of_block h.box)).trans h.box, (hb.block _ (lt_of_block h.res)).trans h.res, own_below h.own hb⟩
theorem PlSt.step {w w1 w2 : World} {v v' : Value} {l : List ByteArray} {o : ByteArray} {pv : Value} {s : ByteArray} {ob : Obj} (h : PlSt w w1 v l o pv) (hown : w2.ownsRow (w.heap.size + 2) 9 1 v' (l.length + 1) (strC l ++ [.string s])) (hgr : (w1.alloc ob).grownBy w2 v.ownBlock) : PlSt w w2 v' (l ++ [s]) o pv := by
  have hz : (w1.alloc ob).heap.size = w1.heap.size + 1 := by simp
  have hne : ∀ k, some k = v.ownBlock → w.heap.size + 2 ≤ k := fun k he => (h.own.lt _ he.symm).1
  have l0 := lt_of_block h.box
  have l1 := lt_of_block h.res
  refine ⟨(h.bel.alloc h.bel.size _).grown hgr (by have := h.bel.size; omega) (fun k he => by have := hne k he.symm; omega), ?_, ?_, by simpa [strC] using hown⟩
  · rw [hgr.block _ (by omega) (fun he => by have := hne _ he; omega)]
    exact heap_past_alloc h.box
  · rw [hgr.block _ (by omega) (fun he => by have := hne _ he; omega)]
    exact heap_past_alloc h.res
theorem filt_snoc {o : ByteArray} {rs : List ByteArray} {k : Nat} (hk : k < rs.length) : (rs.take (k + 1)).filter (fun r => decide (r ≠ o)) = (rs.take k).filter (fun r => decide (r ≠ o)) ++ (if rs[k] = o then [] else [rs[k]]) := by
  rw [List.take_succ_eq_append_getElem hk, List.filter_append]
  congr 1
  by_cases h : rs[k] = o <;> simp [h]
theorem strC_enc (l : List ByteArray) : strC l = (l.map (·.data.toList)).map encStr := by
  simp only [strC, List.map_map]
  apply List.map_congr_left
  intro s _
  show Value.string s = .string (bytesOf s.data.toList)
  rw [data_bytesOf]
theorem enc_strC (ts : List (List UInt8)) : ts.map encStr = strC (ts.map bytesOf) := by
  simp only [strC, List.map_map]
  rfl

theorem own_cap {w : World} {base n cap : Nat} {ao : Option Addr} {e : TypeId} {size : Nat} {xs : List Value} (h : w.ownsRow base e size (.slice ao n cap) n xs) : n ≤ cap ∧ cap ≤ maxLen := by
  rcases h.2 with ⟨h1, h2⟩ | ⟨g, c, cur, h1, _, _, h3, h4, _⟩
  · injection h1 with _ _ h3
    subst h3; subst h2
    exact ⟨Nat.le_refl _, Nat.zero_le _⟩
  · injection h1 with _ _ h5
    subst h5
    exact ⟨h3, h4⟩
theorem Strs.nil (w : World) (ao : Option Addr) : Strs w ao 0 0 [] := ⟨fun h => by simp at h, fun k h => by simp at h, fun h => by simp at h⟩
theorem strs_set {w : World} {ao : Option Addr} {b off : Nat} {l : List ByteArray} {a : Addr} (h : Strs w ao b off l) (hb : 0 < l.length → b ≠ a.block) (u : Value) : Strs (w.setCell a u) ao b off l := by
  refine ⟨h.adr, fun k hk => ?_, fun hp => by simpa [World.setCell] using h.lt hp⟩
  have e : (w.setCell a u).heap[b]? = w.heap[b]? := Below.heap_setCell w a u b (hb (by omega))
  have := h.cell k hk
  simp only [World.cell?, e] at this ⊢
  exact this
theorem heap_sort_other {w : World} {g k n : Nat} {os : Array Obj} {d : Array (List UInt8)} (hk : k < w.heap.size) (hne : k ≠ g) : (grow (putRow encStr (Sort.ahead w n) g 0 d) os).heap[k]? = w.heap[k]? :=
  (grownBy_sorted (w := w) (g := g) (n := n) (os := os) d).block k hk (by simp [hne])

set_option maxRecDepth 100000 in
set_option maxHeartbeats 4000000 in
theorem plainC (p : Pol) (v : Value) (w : World) (hv : ReadersAt w v p.2) (h6 : p.2.length ≤ 6) (ho : p.1.size ≤ 100000) (hr : ∀ r ∈ p.2, r.size ≤ 100000) :
    Calls Tryz.prog 90 #[.agg #[.string p.1, v]] w fun e w' => ∃ v', e = .returned (.agg #[.string p.1, v']) ∧ ReadersNew w' w.heap.size v' (plainF p).2 ∧ Below w.heap.size w w' := by
  obtain ⟨o, rs⟩ := p
  obtain ⟨ro, rb, roff, rc, hv1, _, _, hv4⟩ := hv
  subst hv1
  simp only at hv4 h6 ho hr ⊢
  obtain ⟨n, hn⟩ : ∃ n, n = rs.length := ⟨_, rfl⟩
  rw [← hn] at h6 ⊢
  have HN : Hid (n = rs.length) := hn
  have HV : Hid (Strs w ro rb roff rs) := hv4
  have HR : Hid (∀ r ∈ rs, r.size ≤ 100000) := hr
  obtain ⟨wz, hwz⟩ : ∃ wz, wz = (w.alloc (.cells #[.string o, .slice ro n rc] 63)).alloc (.cells #[.string ⟨#[]⟩, .slice none 0 0] 63) := ⟨_, rfl⟩
  obtain ⟨pv, hpv⟩ : ∃ pv, pv = Value.slice ro n rc := ⟨_, rfl⟩
  have HS0 : Hid (PlSt w wz (.slice none 0 0) [] o pv) := by
    rw [hpv]
    refine ⟨by rw [hwz]; exact ((Below.refl _ _).alloc (Nat.le_refl _) _).alloc (by simp) _, by rw [hwz]; exact heap_past_alloc (heap_at_alloc _ _ _ rfl), by rw [hwz]; exact heap_at_alloc _ _ _ (by simp), World.ownsRow_nil _ _ _ _⟩
  have k0 := HS0.out.box
  rw [hpv] at k0
  have f0 : wz.cell? ⟨w.heap.size, 1, none⟩ = some (.slice ro n rc) := by simp [World.cell?, k0]
  have l0 : w.heap.size < wz.heap.size := lt_of_block k0
  have HWZ : Hid (wz = (w.alloc (.cells #[.string o, .slice ro n rc] 63)).alloc (.cells #[.string ⟨#[]⟩, .slice none 0 0] 63)) := hwz
  clear hn hv4 hr hwz k0 hpv
  go_enter Tryz.func90, Tryz.ntmps90
  go_wp2
  rw [← HWZ.out]
  clear HWZ
  go_loopw [3, 9] (fun v i wr => ∃ k : Nat, k ≤ n ∧ i = .int .i64 k ∧ Hid (PlSt w wr v ((rs.take k).filter fun r => decide (r ≠ o)) o pv)) (fun _ i _ => n - (intOf i).toNat)
  case atStart => exact ⟨0, Nat.zero_le _, rfl, HS0⟩
  case round =>
    clear HS0 f0
    obtain ⟨k, hk, rfl, HS⟩ := hrel
    have kb := HS.out.box
    have c0 : wr.cell? ⟨w.heap.size, 0, none⟩ = some (.string o) := by simp [World.cell?, kb]
    have lb : w.heap.size < wr.heap.size := lt_of_block kb
    clear kb
    by_cases hlt : k < n
    · have hkl : k < rs.length := by have := HN.out; omega
      have hao := HV.out.adr (by omega)
      have f1 := (HV.out.later HS.out.bel).cell k hkl
      have hst := filt_snoc (o := o) hkl
      have hrz := HR.out _ (List.getElem_mem hkl)
      obtain ⟨r, hr⟩ : ∃ r, r = rs[k] := ⟨_, rfl⟩
      rw [← hr] at f1 hst hrz
      obtain ⟨l, hl⟩ : ∃ l, l = (rs.take k).filter fun r => decide (r ≠ o) := ⟨_, rfl⟩
      rw [← hl] at HS hst
      have hll : l.length ≤ 6 := by
        rw [hl]
        have h1 := List.length_filter_le (fun r => decide (r ≠ o)) (rs.take k)
        have h2 := List.length_take (i := k) (l := rs)
        omega
      obtain ⟨ao', cap', hv⟩ := slice_of HS.out.own
      subst hv
      clear hl hr
      subst hao
      by_cases he : r = o
      · rw [if_pos he, List.append_nil] at hst
        have HST : Hid ((rs.take (k + 1)).filter (fun r => decide (r ≠ o)) = l) := hst
        have q0 : (r.toList == o.toList) = true := by rw [he]; simp
        clear hst he
        go_wp2
        go_roundw
        case rel => exact ⟨k + 1, by omega, by go_num, by rw [HST.out]; exact HS⟩
        case measure => simp [intOf]; omega
      · rw [if_neg he] at hst
        have HST : Hid ((rs.take (k + 1)).filter (fun r => decide (r ≠ o)) = l ++ [r]) := hst
        have q0 : (r.toList == o.toList) = false := beq_ne he
        clear hst he
        obtain ⟨i0, hi, hz0, hz1, hz2⟩ := info_parts Tryz.infoStr
        go_wp2_with fail
        refine (cloneC r _ (by omega)).mono ?_
        rintro e w4 ⟨rfl, hb4⟩
        have HS4 : Hid (PlSt w w4 (.slice ao' l.length cap') l o pv) := HS.out.later hb4
        have HO : Hid (w4.ownsRow (w.heap.size + 2) 9 1 (.slice ao' l.length cap') l.length (strC l)) := HS4.out.own
        have hbig : w.heap.size + 2 ≤ w4.heap.size := lt_of_block HS4.out.res
        clear hb4 HS c0 lb
        go_wp2_with (at_builtin; refine wpList_append_own _ rfl _ _ 22 rfl (w.heap.size + 2) 9 i0 (.string ⟨#[]⟩) 1 16 Tryz.underlying22 hi hz0 hz1 hz2 rfl (by decide) _ _ _ rfl (World.ownsRow.alloc HO.out _) ⟨w4.heap.size, 0, none⟩ 1 1 [.string r] rfl rfl ?c1 ?c2 ?c3 ?c4 ?c5 ?_)
        case c1 => exact one_new _ _ _
        case c2 => intro u hu; simp at hu; subst hu; rfl
        case c3 => unfold maxLen; omega
        case c4 => omega
        case c5 => simp; omega
        · intro v' w5 hown5 hgrow5 _
          have HN5 : Hid (PlSt w w5 v' (l ++ [r]) o pv) := HS4.out.step hown5 hgrow5
          clear hown5 hgrow5
          go_wp2
          go_roundw
          case rel => exact ⟨k + 1, by omega, by go_num, by rw [HST.out]; exact HN5⟩
          case measure => simp [intOf]; omega
    · obtain ⟨l, hl⟩ : ∃ l, l = rs.filter fun r => decide (r ≠ o) := ⟨_, rfl⟩
      have HL : Hid ((rs.take k).filter (fun r => decide (r ≠ o)) = l) := by show _ = _; rw [hl, List.take_of_length_le (by have := HN.out; omega)]
      rw [HL.out] at HS
      have HPL : Hid ((plainF (o, rs)).2 = (upC (l.map (·.data.toList))).map bytesOf) := by show _ = _; rw [hl]; rfl
      have hll : l.length ≤ 6 := by
        rw [hl]
        have h1 := List.length_filter_le (fun r => decide (r ≠ o)) rs
        have := HN.out; omega
      clear hl
      by_cases hl0 : l = []
      · subst hl0
        obtain ⟨ao', cap', hv⟩ := slice_of HS.out.own
        subst hv
        have HP0 : Hid ((plainF (o, rs)).2 = []) := by show _ = _; rw [HPL.out]; simp [upC, Lib.compact, Lib.compactUpTo]
        have hz0 : (([] : List ByteArray)).length = 0 := rfl
        rw [hz0] at HS ⊢
        go_wp2_with fail
        refine (Tryz.slices_Sort_string_none _ _ _).mono ?_
        rintro e w1 ⟨rfl, hw⟩
        have hw' := hw.symm
        subst hw'
        go_wp2_with fail
        refine (cloneC o _ (by omega)).mono ?_
        rintro e w4 ⟨rfl, hb4⟩
        have HS4 : Hid (PlSt w w4 (.slice ao' 0 cap') [] o pv) := HS.out.later hb4
        clear hb4 HS
        go_wp2_with fail
        refine (Tryz.slices_Compact_string_empty _ _ _).mono ?_
        rintro e w5 ⟨rfl, hw⟩
        have hw' := hw.symm
        subst hw'
        have kr := HS4.out.res
        have r0 : w4.cell? ⟨w.heap.size + 1, 0, none⟩ = some (.string ⟨#[]⟩) := by simp [World.cell?, kr]
        have r1 : w4.cell? ⟨w.heap.size + 1, 1, none⟩ = some (.slice none 0 0) := by simp [World.cell?, kr]
        have z0 : w4.frozen? ⟨w.heap.size + 1, 0, none⟩ = false := by simp [World.frozen?, kr]
        have z1 : w4.frozen? ⟨w.heap.size + 1, 1, none⟩ = false := by simp [World.frozen?, kr]
        have lr : w.heap.size + 1 < w4.heap.size := lt_of_block kr
        clear kr
        go_wp2
        have HCP := own_cap HS4.out.own
        have HBE : Hid (RowKit.Below w.heap.size w ((w4.setCell ⟨w.heap.size + 1, 0, none⟩ (.string o)).setCell ⟨w.heap.size + 1, 1, none⟩ (.slice ao' 0 cap'))) := (HS4.out.bel.setCell (by simp) _).setCell (by simp) _
        refine bodyPost_ret (v := .agg #[.string o, .slice ao' 0 cap']) (by simp [results, Tryz.results90, go_sem, r0, r1]) rfl ⟨_, rfl, ?_, HBE.out⟩
        rw [HP0.out]
        exact ⟨ao', 0, 0, cap', rfl, Nat.zero_le _, HCP.2, Strs.nil _ _, fun h => by simp at h⟩
      · obtain ⟨g, cap, cur, hv, hg, hh, hc1, hc2, hsz, htk⟩ : ∃ g cap cur, u3 = .slice (some ⟨g, 0, none⟩) l.length cap ∧ w.heap.size + 2 ≤ g ∧ wr.heap[g]? = some (.cells cur 9 (0, 0)) ∧ l.length ≤ cap ∧ cap ≤ maxLen ∧ cur.size = cap * 1 ∧ cur.toList.take (l.length * 1) = strC l := by
          rcases HS.out.own.2 with ⟨_, h2⟩ | ⟨g, cap, cur, h1, h2, h3, h4, h5, h6, h7⟩
          · exact absurd (List.length_eq_zero_iff.1 h2) hl0
          · exact ⟨g, cap, cur, h1, h2, h3, h4, h5, h6, h7⟩
        subst hv
        obtain ⟨zs, hzs⟩ : ∃ zs, zs = l.map (·.data.toList) := ⟨_, rfl⟩
        have hzl : zs.length = l.length := by rw [hzs, List.length_map]
        obtain ⟨ts, hts⟩ : ∃ ts, ts = zs.mergeSort fun x y => decide (x ≤ y) := ⟨_, rfl⟩
        have htl : ts.length = zs.length := by rw [hts, List.length_mergeSort]
        have hpl := HPL.out
        rw [← hzs, upC, ← hts] at hpl
        have HPT : Hid ((plainF (o, rs)).2 = (Lib.compact ts).map bytesOf) := hpl
        have hct : (Lib.compact ts).length ≤ ts.length := Lib.compact_length_le ts
        have hsrt := Tryz.slices_Sort_string g 0 cap zs wr (holds_of_block hh (by rw [hzl, hzs, ← strC_enc, ← htk, Nat.mul_one])) (lt_of_block hh) (by omega)
        rw [← hts, hzl] at hsrt
        have HSRT : Hid (Calls Tryz.prog 66 #[.slice (some ⟨g, 0, none⟩) l.length cap] wr fun e w' => e = .returned (.tuple #[]) ∧ ∃ n os, w' = grow (putRow encStr (Sort.ahead wr n) g 0 ts.toArray) os) := hsrt
        have HHH : Hid (wr.heap[g]? = some (.cells cur 9 (0, 0))) := hh
        have HTL : Hid (ts.length = l.length) := by show _ = _; omega
        have hgg : w.heap.size + 2 ≤ g := hg
        clear hsrt hts hpl hzs hzl htk hh HL HPL hl0
        go_wp2_with fail
        refine HSRT.out.mono ?_
        rintro e w2 ⟨rfl, nq, os, hw2⟩
        have HW2 : Hid (w2 = grow (putRow encStr (Sort.ahead wr nq) g 0 ts.toArray) os) := hw2
        have hgr : wr.grownBy w2 (some g) := by rw [hw2]; exact grownBy_sorted _
        have HB2 : Hid (RowKit.Below w.heap.size w w2) := HS.out.bel.grown hgr HS.out.bel.size (fun j hj => by simp at hj; omega)
        have k0 : w2.heap[w.heap.size]? = some (.cells #[.string o, pv] 63 (0, 0)) := (hgr.block _ (lt_of_block HS.out.box) (by simp; omega)).trans HS.out.box
        have K1 : Hid (w2.heap[w.heap.size + 1]? = some (.cells #[.string ⟨#[]⟩, .slice none 0 0] 63 (0, 0))) := (hgr.block _ (lt_of_block HS.out.res) (by simp; omega)).trans HS.out.res
        have HG2 : Hid (w2.heap[g]? = some (.cells (putCells encStr 0 ts.toArray cur) 9 (0, 0))) := by show _ = _; rw [hw2]; exact heap_sorted _ HHH.out
        have c2 : w2.cell? ⟨w.heap.size, 0, none⟩ = some (.string o) := by simp [World.cell?, k0]
        have l2 : w.heap.size < w2.heap.size := lt_of_block k0
        clear hw2 hgr k0 HSRT HW2 c0 lb
        go_wp2_with fail
        refine (cloneC o _ (by omega)).mono ?_
        rintro e w4 ⟨rfl, hb4⟩
        have HB4 : Hid (RowKit.Below w.heap.size w w4) := HB2.out.trans (hb4.mono HB2.out.size)
        have K4 : Hid (w4.heap[w.heap.size + 1]? = some (.cells #[.string ⟨#[]⟩, .slice none 0 0] 63 (0, 0))) := (hb4.block _ (lt_of_block K1.out)).trans K1.out
        have HG4 : Hid (w4.heap[g]? = some (.cells (putCells encStr 0 ts.toArray cur) 9 (0, 0))) := (hb4.block _ (lt_of_block HG2.out)).trans HG2.out
        have htp : (putCells encStr 0 ts.toArray cur).toList.take ts.length = ts.map encStr := take_putCells cur ts (by have := HTL.out; omega)
        have hcmp := Tryz.slices_Compact_string g 0 cap ts w4 (holds_of_block HG4.out htp) (by have := HTL.out; omega) (by have := HTL.out; omega)
        rw [HTL.out] at hcmp
        have HCMP : Hid (Calls Tryz.prog 136 #[.slice (some ⟨g, 0, none⟩) l.length cap] w4 fun e w' => e = .returned (.slice (some ⟨g, 0, none⟩) (Lib.compact ts).length cap) ∧ ∃ q, w' = putRow encStr (Sort.ahead w4 q) g 0 (Lib.compact ts ++ List.replicate (l.length - (Lib.compact ts).length) []).toArray) := hcmp
        clear hb4 hcmp c2 l2 HB2 K1 HG2
        go_wp2_with fail
        refine HCMP.out.mono ?_
        rintro e w5 ⟨rfl, q5, hw5⟩
        obtain ⟨us, hus⟩ : ∃ us, us = Lib.compact ts ++ List.replicate (l.length - (Lib.compact ts).length) ([] : List UInt8) := ⟨_, rfl⟩
        have husl : us.length = l.length := by rw [hus, List.length_append, List.length_replicate]; have := HTL.out; omega
        rw [← hus, ← grow_empty (putRow encStr (Sort.ahead w4 q5) g 0 us.toArray)] at hw5
        have hgr5 : w4.grownBy w5 (some g) := by rw [hw5]; exact grownBy_sorted _
        have HB5 : Hid (RowKit.Below w.heap.size w w5) := HB4.out.grown hgr5 HB4.out.size (fun j hj => by simp at hj; omega)
        have kr : w5.heap[w.heap.size + 1]? = some (.cells #[.string ⟨#[]⟩, .slice none 0 0] 63 (0, 0)) := (hgr5.block _ (lt_of_block K4.out) (by simp; omega)).trans K4.out
        have hg5 : w5.heap[g]? = some (.cells (putCells encStr 0 us.toArray (putCells encStr 0 ts.toArray cur)) 9 (0, 0)) := by rw [hw5]; exact heap_sorted _ HG4.out
        have hcz : (putCells encStr 0 ts.toArray cur).size = cap := by simp [putCells, hsz]
        have htu : (putCells encStr 0 us.toArray (putCells encStr 0 ts.toArray cur)).toList.take us.length = us.map encStr := take_putCells _ us (by omega)
        have HST : Hid (Strs w5 (some ⟨g, 0, none⟩) g 0 ((Lib.compact ts).map bytesOf)) := by
          refine ⟨fun _ => rfl, fun k hk => ?_, fun _ => lt_of_block hg5⟩
          rw [List.length_map] at hk
          have hku : k < us.length := by have := HTL.out; omega
          have e1 : (us.map encStr)[k]? = some (.string (bytesOf (Lib.compact ts)[k])) := by
            rw [List.getElem?_map, hus, List.getElem?_append_left hk, List.getElem?_eq_getElem hk]
            rfl
          rw [← htu, List.getElem?_take_of_lt hku, Array.getElem?_toList] at e1
          simp only [World.cell?, hg5, Nat.zero_add, List.getElem_map]
          exact e1
        have r0 : w5.cell? ⟨w.heap.size + 1, 0, none⟩ = some (.string ⟨#[]⟩) := by simp [World.cell?, kr]
        have r1 : w5.cell? ⟨w.heap.size + 1, 1, none⟩ = some (.slice none 0 0) := by simp [World.cell?, kr]
        have z0 : w5.frozen? ⟨w.heap.size + 1, 0, none⟩ = false := by simp [World.frozen?, kr]
        have z1 : w5.frozen? ⟨w.heap.size + 1, 1, none⟩ = false := by simp [World.frozen?, kr]
        have lr : w.heap.size + 1 < w5.heap.size := lt_of_block kr
        obtain ⟨m, hm⟩ : ∃ m, m = (Lib.compact ts).length := ⟨_, rfl⟩
        rw [← hm]
        have HM : Hid (m = (Lib.compact ts).length) := hm
        have hmc : m ≤ cap := by have := HTL.out; omega
        clear hw5 hgr5 kr hg5 hcz htu hus husl hm htp HCMP K4 HG4 HB4 hct
        go_wp2
        have HBE : Hid (RowKit.Below w.heap.size w ((w5.setCell ⟨w.heap.size + 1, 0, none⟩ (.string o)).setCell ⟨w.heap.size + 1, 1, none⟩ (.slice (some ⟨g, 0, none⟩) m cap))) := (HB5.out.setCell (by simp) _).setCell (by simp) _
        refine bodyPost_ret (v := .agg #[.string o, .slice (some ⟨g, 0, none⟩) m cap]) (by simp [results, Tryz.results90, go_sem, r0, r1]) rfl ⟨_, rfl, ?_, HBE.out⟩
        rw [HPT.out]
        refine ⟨some ⟨g, 0, none⟩, g, 0, cap, by rw [HM.out, List.length_map], by rw [List.length_map, ← HM.out]; exact hmc, hc2, strs_set (strs_set HST.out (fun _ => by simp; omega) _) (fun _ => by simp; omega) _, fun _ => by omega⟩
end Go.Proofs.YtpbknhhjfhpkmaaGreatDoor

namespace Go.Proofs.YtpbknhhjfhpkmaaGreatDoor
open Go.RowKit Go.Sort

theorem cmpR_step {l m : List ByteArray} {k : Nat} (h1 : k < l.length) (h2 : k < m.length) (h : cmpS l[k] m[k] = 0) : cmpR (l.drop k) (m.drop k) = cmpR (l.drop (k + 1)) (m.drop (k + 1)) := by
  rw [List.drop_eq_getElem_cons h1, List.drop_eq_getElem_cons h2]
  unfold cmpR
  rw [List.map_cons, List.map_cons, cmp_cons, if_neg (by rw [show cmpI l[k].data.toList m[k].data.toList = 0 from h]; simp)]
theorem cmpR_hit {l m : List ByteArray} {k : Nat} (h1 : k < l.length) (h2 : k < m.length) (h : cmpS l[k] m[k] ≠ 0) : cmpR (l.drop k) (m.drop k) = cmpS l[k] m[k] := by
  rw [List.drop_eq_getElem_cons h1, List.drop_eq_getElem_cons h2]
  unfold cmpR
  rw [List.map_cons, List.map_cons, cmp_cons, if_pos (show cmpI l[k].data.toList m[k].data.toList ≠ 0 from h)]
  rfl
theorem cmpR_more {l m : List ByteArray} {k : Nat} (h1 : k < l.length) (h2 : m.length ≤ k) : cmpR (l.drop k) (m.drop k) = 1 := by
  rw [List.drop_eq_getElem_cons h1, List.drop_of_length_le h2]
  unfold cmpR cmpI
  rw [List.map_cons, List.map_nil, if_neg (List.not_lt_nil _), if_pos (List.nil_lt_cons _ _)]
theorem cmpR_less {l m : List ByteArray} {k : Nat} (h1 : l.length ≤ k) (h2 : k < m.length) : cmpR (l.drop k) (m.drop k) = -1 := by
  rw [List.drop_eq_getElem_cons h2, List.drop_of_length_le h1]
  unfold cmpR cmpI
  rw [List.map_cons, List.map_nil, if_pos (List.nil_lt_cons _ _)]
theorem cmpR_same {l m : List ByteArray} {k : Nat} (h1 : l.length ≤ k) (h2 : m.length ≤ k) : cmpR (l.drop k) (m.drop k) = 0 := by
  rw [List.drop_of_length_le h2, List.drop_of_length_le h1]
  unfold cmpR cmpI
  rw [List.map_nil, if_neg (List.not_lt_nil _), if_neg (List.not_lt_nil _)]

set_option maxRecDepth 100000 in
set_option maxHeartbeats 2000000 in
theorem cmpR_any (ao bo : Option Addr) (b off b' off' n m c d : Nat) (l r : List ByteArray) (w : World) (hn : n = l.length) (hm : m = r.length) (hn6 : n ≤ 1000) (hl : Strs w ao b off l) (hr : Strs w bo b' off' r) :
    Calls Tryz.prog 37 #[.slice ao n c, .slice bo m d] w fun e w' => e = .returned (.int .i64 (cmpR l r)) ∧ w' = w := by
  have HN : Hid (n = l.length) := hn
  have HM : Hid (m = r.length) := hm
  have HL : Hid (Strs w ao b off l) := hl
  have HR : Hid (Strs w bo b' off' r) := hr
  clear hn hm hl hr
  go_enter Tryz.func37, Tryz.ntmps37
  go_wp2
  go_loopw [11] (fun i wr => ∃ k : Nat, k ≤ n ∧ k ≤ m ∧ i = .int .i64 k ∧ Hid (cmpR (l.drop k) (r.drop k) = cmpR l r) ∧ wr = w) (fun i _ => n - (intOf i).toNat)
  case atStart => exact ⟨0, Nat.zero_le _, Nat.zero_le _, rfl, by show _ = _; simp, rfl⟩
  case round =>
    obtain ⟨k, hk, hkm, rfl, HK, hw⟩ := hrel
    subst hw
    by_cases hlt : k < n
    · have hkl : k < l.length := by have := HN.out; omega
      have hao := HL.out.adr (by omega)
      have f0 := HL.out.cell k hkl
      obtain ⟨s, hs⟩ : ∃ s, s = l[k] := ⟨_, rfl⟩
      rw [← hs] at f0
      have HSS : Hid (s = l[k]) := hs
      clear hs
      by_cases hlt2 : k < m
      · have hkr : k < r.length := by have := HM.out; omega
        have hbo := HR.out.adr (by omega)
        have g0 := HR.out.cell k hkr
        obtain ⟨t, ht⟩ : ∃ t, t = r[k] := ⟨_, rfl⟩
        rw [← ht] at g0
        have HT : Hid (t = r[k]) := ht
        have hcall := cmpS_any s t wr
        have dg : decide ((m : Int) ≤ (k : Int)) = false := by simp; omega
        clear ht
        subst hao hbo
        by_cases hz : cmpS s t = 0
        · have HE : Hid (cmpR (l.drop (k + 1)) (r.drop (k + 1)) = cmpR l r) := by
            show _ = _
            rw [← HK.out, cmpR_step hkl hkr (by rw [← HSS.out, ← HT.out]; exact hz)]
          rw [hz] at hcall
          clear hz
          go_wp2_with fail
          refine hcall.mono ?_
          rintro e w1 ⟨rfl, hw⟩
          have hw' := hw.symm
          subst hw'
          go_wp2
          go_roundw
          case rel => exact ⟨k + 1, by omega, by omega, by go_num, HE, trivial⟩
          case measure => simp [intOf]; omega
        · have HE : Hid (cmpR l r = cmpS s t) := by
            show _ = _
            rw [← HK.out, cmpR_hit hkl hkr (by rw [← HSS.out, ← HT.out]; exact hz), ← HSS.out, ← HT.out]
          obtain ⟨e0, he0⟩ : ∃ e0, e0 = cmpS s t := ⟨_, rfl⟩
          rw [← he0] at hcall hz HE
          have bn : (e0 == 0) = false := by simp [hz]
          have bb : (e0 != 0) = true := by simp [hz]
          clear he0 hz
          go_wp2_with fail
          refine hcall.mono ?_
          rintro e w1 ⟨rfl, hw⟩
          have hw' := hw.symm
          subst hw'
          go_wp2
          go_ret
          refine ⟨?_, rfl⟩
          rw [HE.out]; rfl
      · have HE : Hid (cmpR l r = 1) := by
          show _ = _
          rw [← HK.out, cmpR_more hkl (by have := HM.out; omega)]
        have dg : decide ((m : Int) ≤ (k : Int)) = true := by simp; omega
        subst hao
        go_wp2
        go_ret
        refine ⟨?_, rfl⟩
        rw [HE.out]; rfl
    · by_cases hnm : n < m
      · have HE : Hid (cmpR l r = -1) := by
          show _ = _
          rw [← HK.out, cmpR_less (by have := HN.out; omega) (by have := HM.out; omega)]
        go_wp2
        go_ret
        refine ⟨?_, rfl⟩
        rw [HE.out]; rfl
      · have HE : Hid (cmpR l r = 0) := by
          show _ = _
          rw [← HK.out, cmpR_same (by have := HN.out; omega) (by have := HM.out; omega)]
        go_wp2
        go_ret
        refine ⟨?_, rfl⟩
        rw [HE.out]; rfl

set_option maxRecDepth 100000 in
set_option maxHeartbeats 1000000 in
theorem or_any (sb : Nat) (x y : Int) (w : World) (h : w.heap[sb]? = some (.cells #[.int .i64 x, .int .i64 y] 3 (0, 0))) :
    Calls Tryz.prog 138 #[.slice (some ⟨sb, 0, none⟩) 2 2] w fun e w' => e = .returned (.int .i64 (if x ≠ 0 then x else y)) ∧ w' = w := by
  obtain ⟨r, hr⟩ : ∃ r, r = (if x ≠ 0 then x else y) := ⟨_, rfl⟩
  rw [← hr]
  have H1 : Hid (x ≠ 0 → r = x) := fun h => by rw [hr, if_pos h]
  have H2 : Hid (x = 0 → r = y) := fun h => by rw [hr, if_neg (by simp [h])]
  clear hr
  have c0 : w.cell? ⟨sb, 0, none⟩ = some (.int .i64 x) := by simp [World.cell?, h]
  have c1 : w.cell? ⟨sb, 1, none⟩ = some (.int .i64 y) := by simp [World.cell?, h]
  have l0 : sb < w.heap.size := lt_of_block h
  clear h
  go_enter Tryz.func138, Tryz.ntmps138
  go_wp2
  go_loopw [8] (fun i wr => ∃ k : Nat, k ≤ 2 ∧ i = .int .i64 k ∧ (0 < k → Hid (x = 0)) ∧ (1 < k → Hid (y = 0)) ∧ wr = w) (fun i _ => 2 - (intOf i).toNat)
  case atStart => exact ⟨0, by omega, rfl, fun h => by omega, fun h => by omega, rfl⟩
  case round =>
    obtain ⟨k, hk, rfl, HX, HY, hw⟩ := hrel
    subst hw
    match k, hk with
    | 0, _ =>
      by_cases hx : x = 0
      · subst hx
        go_wp2
        go_roundw
        case rel => exact ⟨1, by omega, by go_num, fun _ => (by first | exact trivial | exact rfl), fun h => by omega, trivial⟩
        case measure => simp [intOf]
      · have HE : Hid (r = x) := H1.out hx
        have bn : (x == 0) = false := by simp [hx]
        have bb : (x != 0) = true := by simp [hx]
        clear hx
        go_wp2
        go_ret
        refine ⟨?_, rfl⟩
        rw [HE.out]; rfl
    | 1, _ =>
      have hx := (HX (by omega)).out
      have HE : Hid (r = y) := H2.out hx
      have HX0 : Hid (x = 0) := hx
      clear HX HY hx
      by_cases hy : y = 0
      · subst hy
        go_wp2
        go_roundw
        case rel => exact ⟨2, by omega, by go_num, fun _ => HX0, fun _ => (by first | exact trivial | exact rfl), trivial⟩
        case measure => simp [intOf]
      · have bn : (y == 0) = false := by simp [hy]
        have bb : (y != 0) = true := by simp [hy]
        clear hy
        go_wp2
        go_ret
        refine ⟨?_, rfl⟩
        rw [HE.out]; rfl
    | 2, _ =>
      have hx := (HX (by omega)).out
      have hy := (HY (by omega)).out
      have HE : Hid (r = 0) := (H2.out hx).trans hy
      clear HX HY hx hy
      go_wp2
      go_ret
      refine ⟨?_, rfl⟩
      rw [HE.out]; rfl

theorem grown_new (w : World) (a b c : Obj) (n : Nat) : (((w.alloc a).alloc b).drewN n).alloc c = grow (w.drewN n) #[a, b, c] := by
  have e : ∀ (W : World) (o : Obj), W.alloc o = grow W #[o] := alloc_eq_grow
  rw [e, e, e]
  show grow (grow (grow (w.drewN n) #[a]) #[b]) #[c] = _
  rw [grow_grow, grow_grow]
  rfl

set_option maxRecDepth 100000 in
set_option maxHeartbeats 4000000 in
theorem compareC (p q : Pol) (u v : Value) (w : World) (hu : ReadersAt w u p.2) (hv : ReadersAt w v q.2) (h6 : p.2.length ≤ 1000) :
    Calls Tryz.prog 92 #[.agg #[.string p.1, u], .agg #[.string q.1, v]] w fun e w' => e = .returned (.int .i64 (cmpP p q)) ∧ ∃ k os, w' = grow (w.drewN k) os := by
  obtain ⟨o, rs⟩ := p
  obtain ⟨o', rs'⟩ := q
  have HE : Hid (cmpP (o, rs) (o', rs') = if cmpS o o' ≠ 0 then cmpS o o' else cmpR rs rs') := cmpP_eq _ _
  obtain ⟨ro, rb, roff, rc, hu1, _, _, hu4⟩ := hu
  obtain ⟨ro', rb', roff', rc', hv1, _, _, hv4⟩ := hv
  subst hu1 hv1
  simp only at hu4 hv4 h6 ⊢
  obtain ⟨wz, hwz⟩ : ∃ wz, wz = (w.alloc (.cells #[.string o, .slice ro rs.length rc] 63)).alloc (.cells #[.string o', .slice ro' rs'.length rc'] 63) := ⟨_, rfl⟩
  have hbz : Below w.heap.size w wz := by rw [hwz]; exact ((Below.refl _ _).alloc (Nat.le_refl _) _).alloc (by simp) _
  have k0 : wz.heap[w.heap.size]? = some (.cells #[.string o, .slice ro rs.length rc] 63 (0, 0)) := by rw [hwz]; exact heap_past_alloc (heap_at_alloc _ _ _ rfl)
  have k1 : wz.heap[w.heap.size + 1]? = some (.cells #[.string o', .slice ro' rs'.length rc'] 63 (0, 0)) := by rw [hwz]; exact heap_at_alloc _ _ _ (by simp)
  have HR : Hid (∀ k, Calls Tryz.prog 37 #[.slice ro rs.length rc, .slice ro' rs'.length rc'] (wz.drewN k) fun e w' => e = .returned (.int .i64 (cmpR rs rs')) ∧ w' = wz.drewN k) := fun k =>
    cmpR_any ro ro' rb roff rb' roff' _ _ rc rc' rs rs' _ rfl rfl h6 ((hu4.later hbz).of_heap rfl) ((hv4.later hbz).of_heap rfl)
  rw [HE.out]
  obtain ⟨x, hx⟩ : ∃ x, x = cmpS o o' := ⟨_, rfl⟩
  obtain ⟨y, hy⟩ : ∃ y, y = cmpR rs rs' := ⟨_, rfl⟩
  obtain ⟨n, hn⟩ : ∃ n, n = rs.length := ⟨_, rfl⟩
  obtain ⟨n', hn'⟩ : ∃ n', n' = rs'.length := ⟨_, rfl⟩
  have HX : Hid (∀ W, Calls Tryz.prog 75 #[.string o, .string o'] W fun e w' => e = .returned (.int .i64 x) ∧ w' = W) := fun W => by rw [hx]; exact cmpS_any o o' W
  rw [← hx, ← hy, ← hn, ← hn']
  rw [← hy, ← hn, ← hn'] at HR
  rw [← hn] at k0 hwz
  rw [← hn'] at k1 hwz
  have c0 : wz.cell? ⟨w.heap.size, 0, none⟩ = some (.string o) := by simp [World.cell?, k0]
  have c1 : wz.cell? ⟨w.heap.size, 1, none⟩ = some (.slice ro n rc) := by simp [World.cell?, k0]
  have c2 : wz.cell? ⟨w.heap.size + 1, 0, none⟩ = some (.string o') := by simp [World.cell?, k1]
  have c3 : wz.cell? ⟨w.heap.size + 1, 1, none⟩ = some (.slice ro' n' rc') := by simp [World.cell?, k1]
  obtain ⟨b0, hb0⟩ : ∃ b0, b0 = w.heap.size := ⟨_, rfl⟩
  obtain ⟨b1, hb1⟩ : ∃ b1, b1 = w.heap.size + 1 := ⟨_, rfl⟩
  have l0 : b0 < wz.heap.size := by rw [hb0]; exact lt_of_block k0
  have l1 : b1 < wz.heap.size := by rw [hb1]; exact lt_of_block k1
  rw [← hb0] at c0 c1
  rw [← hb1] at c2 c3
  have HB0 : Hid (w.heap.size = b0) := hb0.symm
  have HB1 : Hid (b0 + 1 = b1) := by show _ = _; rw [hb0, hb1]
  have HWZ : Hid (wz = (w.alloc (.cells #[.string o, .slice ro n rc] 63)).alloc (.cells #[.string o', .slice ro' n' rc'] 63)) := hwz
  clear hx hy hn hn' hu4 hv4 HE hbz h6 k0 k1 hwz hb0 hb1
  obtain ⟨z, hz⟩ : ∃ z, z = (if x ≠ 0 then x else y) := ⟨_, rfl⟩
  have HZ : Hid ((if x ≠ 0 then x else y) = z) := hz.symm
  rw [HZ.out]
  clear hz
  go_enter Tryz.func92, Tryz.ntmps92
  go_wp2_with fail
  rw [← HWZ.out, HB0.out, HB1.out]
  have HOR : Hid (∀ W sb, W.heap[sb]? = some (.cells #[.int .i64 x, .int .i64 y] 3 (0, 0)) → Calls Tryz.prog 138 #[.slice (some ⟨sb, 0, none⟩) 2 2] W fun e w' => e = .returned (.int .i64 z) ∧ w' = W) := fun W sb hW => by rw [← HZ.out]; exact or_any _ x y W hW
  have HFIN : Hid (∀ c, wz.drew.alloc c = grow (w.drewN 1) #[.cells #[.string o, .slice ro n rc] 63, .cells #[.string o', .slice ro' n' rc'] 63, c]) := fun c => by rw [HWZ.out]; exact grown_new w _ _ c 1
  go_region_held3 (fun w' => w'.cell? ⟨b0, 0, none⟩ = some (.string o) ∧ w'.cell? ⟨b0, 1, none⟩ = some (.slice ro n rc) ∧ w'.cell? ⟨b1, 0, none⟩ = some (.string o') ∧ w'.cell? ⟨b1, 1, none⟩ = some (.slice ro' n' rc')) (go_keep)
    (first
      | (go_at_call 75; refine (HX.out _).mono ?_; rintro e w' ⟨rfl, rfl⟩)
      | (go_at_call 37; refine (HR.out _).mono ?_; rintro e w' ⟨rfl, rfl⟩)
      | (go_at_call 138; refine (HOR.out _ _ (heap_at_alloc _ _ _ rfl)).mono ?_; rintro e w' ⟨rfl, rfl⟩))
  all_goals go_wp2
  all_goals go_ret
  all_goals exact ⟨rfl, _, _, HFIN.out _⟩
end Go.Proofs.YtpbknhhjfhpkmaaGreatDoor
