/- The document's formLabel, of a label that has the form of one. -/
import Derived.Test.YtcdeicfegfedfaaGreatDoorGaFmA
import Derived.Test.YtcdeicfegfedfaaGreatDoorGaName
import Derived.Test.YtcdeicfegfedfaaGreatDoorGaFrm
import Derived.BigQuiet
import Derived.Shelf.Abstract
namespace Go.Proofs.YtcdeicfegfedfaaGreatDoor
open Go.RowKit
open Par (Tr Po ba)

/- The library's own bound of lengths is laid. -/
def Mxl (w : World) : Prop := ∃ m, w.cell? ⟨3, 0, none⟩ = some (.int .i64 m)
theorem lt_of_cell {w : World} {b o : Nat} {v : Value} (h : w.cell? ⟨b, o, none⟩ = some v) : b < w.heap.size := by
  apply Classical.byContradiction
  intro hn
  simp [World.cell?, Array.getElem?_eq_none (Nat.not_lt.1 hn)] at h
theorem Mxl.later {w w' : World} (h : Mxl w) (hb : Below w.heap.size w w') : Mxl w' := by
  obtain ⟨m, hm⟩ := h
  exact ⟨m, (hb.cell (p := ⟨3, 0, none⟩) (lt_of_cell hm)).trans hm⟩
theorem isNm {s : ByteArray} {w : World} (h : Mxl w) (hs : s.size ≤ maxLen) : Calls Tryz.prog 73 #[.string s] w fun e w' => e = .returned (.bool (Par.nameOK s)) ∧ Below w.heap.size w w' := by
  obtain ⟨m, hm⟩ := h
  exact isName_any s m w (by unfold maxLen at hs; omega) hm
theorem lab_parts {l : List Po} (h : Par.labOK l = true) : l.length ≤ 200 ∧ ∀ p ∈ l, Par.PolOK p := by
  unfold Par.labOK at h
  simp only [Bool.and_eq_true, decide_eq_true_eq, Bool.not_eq_true'] at h
  obtain ⟨h1, h2⟩ := h
  rcases printE_cases l with ⟨_, h3, h4⟩ | h3
  · refine ⟨h3, fun p hp => ?_⟩
    have h5 := List.any_eq_false.1 h2 p hp
    unfold Par.polBad at h5
    simp at h5
    have h6 := h4 p hp
    unfold longB at h6
    simp at h6
    exact ⟨h5.1, List.all_eq_true.1 h5.2, h6.1.1⟩
  · rw [h3] at h1
    cases h1
set_option maxRecDepth 100000 in
set_option maxHeartbeats 4000000 in
theorem longL {w : World} {S : Nat → Prop} {v : Value} {l : List Po} (h : LabV w S v l) (hl : Par.labOK l = true) : Calls Tryz.prog 107 #[v] w fun e w' => e = .returned (.bool false) ∧ Below w.heap.size w w' := by
  obtain ⟨h200, hpo⟩ := lab_parts hl
  obtain ⟨ao, b, off, c, rfl, _, _, hp⟩ := h.toP
  obtain ⟨n, hn⟩ : ∃ n, n = l.length := ⟨_, rfl⟩
  rw [← hn] at h200 ⊢
  have HN : Hid (n = l.length) := hn
  have HP : Hid (Pols w ao b off l) := hp.pols
  have HO : Hid (∀ p ∈ l, Par.PolOK p) := hpo
  have d200 : decide ((200 : Int) < (n : Int)) = false := by simp; omega
  clear hn hp hpo hl h
  go_enter Tryz.func107, Tryz.ntmps107
  go_wp2
  go_loopw [12] (fun i wr => ∃ k : Nat, k ≤ n ∧ i = .int .i64 k ∧ Hid (Below w.heap.size w wr)) (fun i _ => n - (intOf i).toNat)
  case atStart => exact ⟨0, Nat.zero_le _, rfl, Below.refl _ _⟩
  case round =>
    obtain ⟨k, hk, rfl, HB⟩ := hrel
    by_cases hlt : k < n
    · have hkl : k < l.length := by have := HN.out; omega
      have hX := HP.out.later HB.out
      have hao := hX.adr (by omega)
      have f0 := hX.c0 k hkl
      obtain ⟨pv, f1, hv⟩ := hX.c1 k hkl
      have ho := HO.out _ (List.getElem_mem hkl)
      have lb := hX.lt (by omega)
      obtain ⟨q, hq⟩ : ∃ q, q = l[k] := ⟨_, rfl⟩
      rw [← hq] at f0 hv ho
      obtain ⟨o, rs⟩ := q
      obtain ⟨o1, o2, o3⟩ := ho
      simp only at f0 o1 o2 o3 hv
      have o4 := Par.ok_size o1
      obtain ⟨ro, rb, roff, rc, hv0, _, _, hv3⟩ := hv
      obtain ⟨rn, hrn⟩ : ∃ rn, rn = rs.length := ⟨_, rfl⟩
      rw [← hrn] at hv0 o3
      subst hv0
      have d6 : decide ((6 : Int) < (rn : Int)) = false := by simp; omega
      have d12 : decide ((12 : Int) < (o.size : Int)) = false := by simp; omega
      obtain ⟨wz, hwz⟩ : ∃ wz, wz = wr.alloc (.cells #[.string o, .slice ro rn rc] 56) := ⟨_, rfl⟩
      have hbz : Below wr.heap.size wr wz := by rw [hwz]; exact (Below.refl _ _).alloc (Nat.le_refl _) _
      have HST : Hid (Strs wz ro rb roff rs) := hv3.later hbz
      have HRN : Hid (rn = rs.length) := hrn
      have HO2 : Hid (∀ s ∈ rs, Par.nameOK s = true) := o2
      have HBZ : Hid (Below w.heap.size w wz) := HB.out.trans (hbz.mono HB.out.size)
      have HWZ : Hid (wz = wr.alloc (.cells #[.string o, .slice ro rn rc] 56)) := hwz
      have hz0 : wz.heap[wr.heap.size]? = some (.cells #[.string o, .slice ro rn rc] 56 (0, 0)) := by rw [hwz]; exact heap_at_alloc _ _ _ rfl
      have z1 : wz.cell? ⟨wr.heap.size, 1, none⟩ = some (.slice ro rn rc) := by simp [World.cell?, hz0]
      subst hao
      clear hX hq hrn hv3 hbz hwz o1 o2 hz0
      go_upto_region 8 with fail
      rw [← HWZ.out]
      go_wp2
      go_loopw [29] (fun i w' => ∃ j : Nat, j ≤ rn ∧ i = .int .i64 j ∧ w' = wz) (fun i _ => rn - (intOf i).toNat)
      case atStart => exact ⟨0, Nat.zero_le _, rfl, rfl⟩
      case round =>
        obtain ⟨j, hj, rfl, rfl⟩ := hrel
        by_cases hlj : j < rn
        · have hjl : j < rs.length := by have := HRN.out; omega
          have e1 := HST.out.adr (by omega)
          have g1 := HST.out.cell j hjl
          have hs := HO2.out _ (List.getElem_mem hjl)
          obtain ⟨x, hx⟩ : ∃ x, x = rs[j] := ⟨_, rfl⟩
          rw [← hx] at g1 hs
          have hs2 := Par.ok_size hs
          have dx : decide ((12 : Int) < (x.size : Int)) = false := by simp; omega
          subst e1
          clear hx hs
          go_wp2
          go_roundw
          case rel => exact ⟨j + 1, by omega, by go_num, by trivial⟩
          case measure => simp [intOf]; omega
        · obtain rfl : j = rn := by omega
          go_wp2
          go_roundw
          case rel => exact ⟨k + 1, by omega, by go_num, HBZ⟩
          case measure => simp [intOf]; omega
    · obtain rfl : k = n := by omega
      go_wp2
      go_ret
      exact ⟨rfl, HB.out⟩
theorem nm1 (s : ByteArray) (w : World) (hx : Mxl w) (hs : s.size ≤ maxLen) : Calls Tryz.prog 109 #[.string s] w fun x w' => x = .returned (.bool (!Par.nameOK s)) ∧ Below w.heap.size w w' := by
  have hn := isNm hx hs
  go_enter Tryz.func109, Tryz.ntmps109
  go_wp2_with fail
  refine hn.mono ?_
  rintro x w1 ⟨rfl, hb1⟩
  go_wp2
  go_ret
  exact ⟨rfl, hb1⟩
set_option maxRecDepth 100000 in
set_option maxHeartbeats 4000000 in
theorem formLab {w : World} {S : Nat → Prop} {v : Value} {l : List Po} (hx : Mxl w) (h : LabV w S v l) (hl : Par.labOK l = true) : Calls Tryz.prog 74 #[v] w fun e w' => e = .returned (.bool true) ∧ Below w.heap.size w w' := by
  have hlong := longL h hl
  obtain ⟨h200, hpo⟩ := lab_parts hl
  obtain ⟨ao, b, off, c, rfl, _, _, hp⟩ := h.toP
  obtain ⟨n, hn⟩ : ∃ n, n = l.length := ⟨_, rfl⟩
  rw [← hn] at h200 hlong ⊢
  have HN : Hid (n = l.length) := hn
  have HP : Hid (Pols w ao b off l) := hp.pols
  have HO : Hid (∀ p ∈ l, Par.PolOK p) := hpo
  have HX : Hid (Mxl w) := hx
  clear hn hp hpo hl h hx
  go_enter Tryz.func74, Tryz.ntmps74
  go_wp2_with fail
  refine hlong.mono ?_
  rintro e w1 ⟨rfl, hb1⟩
  have HB1 : Hid (Below w.heap.size w w1) := hb1
  clear hb1 hlong
  go_wp2
  go_loopw [9] (fun i wr => ∃ k : Nat, k ≤ n ∧ i = .int .i64 k ∧ Hid (Below w.heap.size w wr)) (fun i _ => n - (intOf i).toNat)
  case atStart => exact ⟨0, Nat.zero_le _, rfl, HB1⟩
  case round =>
    obtain ⟨k, hk, rfl, HB⟩ := hrel
    by_cases hlt : k < n
    · have hkl : k < l.length := by have := HN.out; omega
      have hX := HP.out.later HB.out
      have hao := hX.adr (by omega)
      have f0 := hX.c0 k hkl
      obtain ⟨pv, f1, hv⟩ := hX.c1 k hkl
      have ho := HO.out _ (List.getElem_mem hkl)
      have lb := hX.lt (by omega)
      obtain ⟨q, hq⟩ : ∃ q, q = l[k] := ⟨_, rfl⟩
      rw [← hq] at f0 hv ho
      obtain ⟨o, rs⟩ := q
      obtain ⟨o1, o2, o3⟩ := ho
      simp only at f0 o1 o2 o3 hv
      have o4 := Par.ok_size o1
      obtain ⟨ro, rb, roff, rc, hv0, _, _, hv3⟩ := hv
      obtain ⟨rn, hrn⟩ : ∃ rn, rn = rs.length := ⟨_, rfl⟩
      rw [← hrn] at hv0 o3
      subst hv0
      obtain ⟨wz, hwz⟩ : ∃ wz, wz = wr.alloc (.cells #[.string o, .slice ro rn rc] 56) := ⟨_, rfl⟩
      have hbz : Below wr.heap.size wr wz := by rw [hwz]; exact (Below.refl _ _).alloc (Nat.le_refl _) _
      have hbw : Below w.heap.size w wz := HB.out.trans (hbz.mono HB.out.size)
      have HST : Hid (Strs wz ro rb roff rs) := hv3.later hbz
      have HRN : Hid (rn = rs.length) := hrn
      have HO2 : Hid (∀ s ∈ rs, Par.nameOK s = true) := o2
      have HBZ : Hid (Below w.heap.size w wz) := hbw
      have HWZ : Hid (wz = wr.alloc (.cells #[.string o, .slice ro rn rc] 56)) := hwz
      have HZ0 : Hid (wz.heap[wr.heap.size]? = some (.cells #[.string o, .slice ro rn rc] 56 (0, 0))) := by show _ = _; rw [hwz]; exact heap_at_alloc _ _ _ rfl
      have hnm := isNm (s := o) (HX.out.later hbw) (by unfold maxLen; omega)
      rw [o1] at hnm
      subst hao
      clear hX hq hrn hv3 hbz hwz o1 o2 hbw
      go_wp2_with fail
      rw [← HWZ.out]
      refine hnm.mono ?_
      rintro e w2 ⟨rfl, hb2⟩
      have HB2 : Hid (Below w.heap.size w w2) := HBZ.out.trans (hb2.mono HBZ.out.size)
      have hz2 : w2.heap[wr.heap.size]? = some (.cells #[.string o, .slice ro rn rc] 56 (0, 0)) := (hb2.block _ (lt_of_block HZ0.out)).trans HZ0.out
      have z1 : w2.cell? ⟨wr.heap.size, 1, none⟩ = some (.slice ro rn rc) := by simp [World.cell?, hz2]
      have lz2 := lt_of_block hz2
      have hcf := containsFuncS 109 #[] (enters_of Tryz.func109 (by kernel_rfl) rfl) (fun s => !Par.nameOK s) ro rb roff rn rc rs w2 HRN.out (by omega) (HST.out.later hb2) (fun W s hs hW => nm1 s W ((HX.out.later HB2.out).later hW) (by have := Par.ok_size (HO2.out s hs); unfold maxLen; omega))
      have hany : (rs.any fun s => !Par.nameOK s) = false := List.any_eq_false.2 fun s hs => by simp [HO2.out s hs]
      rw [hany] at hcf
      clear hb2 hz2 hnm hany f0 f1
      go_wp2_with fail
      refine hcf.mono ?_
      rintro e w3 ⟨rfl, hb3⟩
      have HB3 : Hid (Below w.heap.size w w3) := HB2.out.trans (hb3.mono HB2.out.size)
      clear hb3 hcf z1 lz2
      go_wp2
      go_roundw
      case rel => exact ⟨k + 1, by omega, by go_num, HB3⟩
      case measure => simp [intOf]; omega
    · obtain rfl : k = n := by omega
      go_wp2
      go_ret
      exact ⟨rfl, HB.out⟩
end Go.Proofs.YtcdeicfegfedfaaGreatDoor
