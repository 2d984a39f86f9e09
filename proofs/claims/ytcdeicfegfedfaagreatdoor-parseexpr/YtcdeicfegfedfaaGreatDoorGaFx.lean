/- The document's formLabel, of a label that has the form of one. The document's Deep, FormExpr and IsFormed. The document's FormExpr, of a tree that is formed part by part, and IsFormed. -/
import Derived.Test.YtcdeicfegfedfaaGreatDoorGaFmA
import Derived.Test.YtcdeicfegfedfaaGreatDoorGaName
import Derived.Test.YtcdeicfegfedfaaGreatDoorGaFrm
import Derived.BigQuiet
import Derived.Shelf.Abstract
import Derived.Test.YtcdeicfegfedfaaGreatDoorGaMap
import Derived.Test.YtcdeicfegfedfaaGreatDoorGaSx
namespace Go.Proofs.YtcdeicfegfedfaaGreatDoor
open Go.RowKit
open Par (Tr Po ba)

/- The library's own bound of lengths is laid. -/
def Mxl (w : World) : Prop := ∃ m, w.cell? ⟨3, 0, none⟩ = some (.int .i64 m)
theorem lt_of_cell {w : World} {b o : Nat} {v : Value} (h : w.cell? ⟨b, o, none⟩ = some v) : b < w.heap.size := by
  apply Classical.byContradiction
  intro hn
  simp [World.cell?, Array.getElem?_eq_none (Nat.not_lt.1 hn)] at h
theorem Mxl.later {w w' : World} (h : Mxl w) (hb : Below w.heap.size w w') : Mxl w' := by
  obtain ⟨m, hm⟩ := h
  exact ⟨m, (hb.cell (p := ⟨3, 0, none⟩) (lt_of_cell hm)).trans hm⟩
theorem isNm {s : ByteArray} {w : World} (h : Mxl w) (hs : s.size ≤ maxLen) : Calls Tryz.prog 73 #[.string s] w fun e w' => e = .returned (.bool (Par.nameOK s)) ∧ Below w.heap.size w w' := by
  obtain ⟨m, hm⟩ := h
  exact isName_any s m w (by unfold maxLen at hs; omega) hm
theorem lab_parts {l : List Po} (h : Par.labOK l = true) : l.length ≤ 200 ∧ ∀ p ∈ l, Par.PolOK p := by
  unfold Par.labOK at h
  simp only [Bool.and_eq_true, decide_eq_true_eq, Bool.not_eq_true'] at h
  obtain ⟨h1, h2⟩ := h
  rcases printE_cases l with ⟨_, h3, h4⟩ | h3
  · refine ⟨h3, fun p hp => ?_⟩
    have h5 := List.any_eq_false.1 h2 p hp
    unfold Par.polBad at h5
    simp at h5
    have h6 := h4 p hp
    unfold longB at h6
    simp at h6
    exact ⟨h5.1, List.all_eq_true.1 h5.2, h6.1.1⟩
  · rw [h3] at h1
    cases h1
set_option maxRecDepth 100000 in
set_option maxHeartbeats 4000000 in
theorem longL {w : World} {S : Nat → Prop} {v : Value} {l : List Po} (h : LabV w S v l) (hl : Par.labOK l = true) : Calls Tryz.prog 107 #[v] w fun e w' => e = .returned (.bool false) ∧ Below w.heap.size w w' := by
  obtain ⟨h200, hpo⟩ := lab_parts hl
  obtain ⟨ao, b, off, c, rfl, _, _, hp⟩ := h.toP
  obtain ⟨n, hn⟩ : ∃ n, n = l.length := ⟨_, rfl⟩
  rw [← hn] at h200 ⊢
  have HN : Hid (n = l.length) := hn
  have HP : Hid (Pols w ao b off l) := hp.pols
  have HO : Hid (∀ p ∈ l, Par.PolOK p) := hpo
  have d200 : decide ((200 : Int) < (n : Int)) = false := by simp; omega
  clear hn hp hpo hl h
  go_enter Tryz.func107, Tryz.ntmps107
  go_wp2
  go_loopw [12] (fun i wr => ∃ k : Nat, k ≤ n ∧ i = .int .i64 k ∧ Hid (Below w.heap.size w wr)) (fun i _ => n - (intOf i).toNat)
  case atStart => exact ⟨0, Nat.zero_le _, rfl, Below.refl _ _⟩
  case round =>
    obtain ⟨k, hk, rfl, HB⟩ := hrel
    by_cases hlt : k < n
    · have hkl : k < l.length := by have := HN.out; omega
      have hX := HP.out.later HB.out
      have hao := hX.adr (by omega)
      have f0 := hX.c0 k hkl
      obtain ⟨pv, f1, hv⟩ := hX.c1 k hkl
      have ho := HO.out _ (List.getElem_mem hkl)
      have lb := hX.lt (by omega)
      obtain ⟨q, hq⟩ : ∃ q, q = l[k] := ⟨_, rfl⟩
      rw [← hq] at f0 hv ho
      obtain ⟨o, rs⟩ := q
      obtain ⟨o1, o2, o3⟩ := ho
      simp only at f0 o1 o2 o3 hv
      have o4 := Par.ok_size o1
      obtain ⟨ro, rb, roff, rc, hv0, _, _, hv3⟩ := hv
      obtain ⟨rn, hrn⟩ : ∃ rn, rn = rs.length := ⟨_, rfl⟩
      rw [← hrn] at hv0 o3
      subst hv0
      have d6 : decide ((6 : Int) < (rn : Int)) = false := by simp; omega
      have d12 : decide ((12 : Int) < (o.size : Int)) = false := by simp; omega
      obtain ⟨wz, hwz⟩ : ∃ wz, wz = wr.alloc (.cells #[.string o, .slice ro rn rc] 56) := ⟨_, rfl⟩
      have hbz : Below wr.heap.size wr wz := by rw [hwz]; exact (Below.refl _ _).alloc (Nat.le_refl _) _
      have HST : Hid (Strs wz ro rb roff rs) := hv3.later hbz
      have HRN : Hid (rn = rs.length) := hrn
      have HO2 : Hid (∀ s ∈ rs, Par.nameOK s = true) := o2
      have HBZ : Hid (Below w.heap.size w wz) := HB.out.trans (hbz.mono HB.out.size)
      have HWZ : Hid (wz = wr.alloc (.cells #[.string o, .slice ro rn rc] 56)) := hwz
      have hz0 : wz.heap[wr.heap.size]? = some (.cells #[.string o, .slice ro rn rc] 56 (0, 0)) := by rw [hwz]; exact heap_at_alloc _ _ _ rfl
      have z1 : wz.cell? ⟨wr.heap.size, 1, none⟩ = some (.slice ro rn rc) := by simp [World.cell?, hz0]
      subst hao
      clear hX hq hrn hv3 hbz hwz o1 o2 hz0
      go_upto_region 8 with fail
      rw [← HWZ.out]
      go_wp2
      go_loopw [29] (fun i w' => ∃ j : Nat, j ≤ rn ∧ i = .int .i64 j ∧ w' = wz) (fun i _ => rn - (intOf i).toNat)
      case atStart => exact ⟨0, Nat.zero_le _, rfl, rfl⟩
      case round =>
        obtain ⟨j, hj, rfl, rfl⟩ := hrel
        by_cases hlj : j < rn
        · have hjl : j < rs.length := by have := HRN.out; omega
          have e1 := HST.out.adr (by omega)
          have g1 := HST.out.cell j hjl
          have hs := HO2.out _ (List.getElem_mem hjl)
          obtain ⟨x, hx⟩ : ∃ x, x = rs[j] := ⟨_, rfl⟩
          rw [← hx] at g1 hs
          have hs2 := Par.ok_size hs
          have dx : decide ((12 : Int) < (x.size : Int)) = false := by simp; omega
          subst e1
          clear hx hs
          go_wp2
          go_roundw
          case rel => exact ⟨j + 1, by omega, by go_num, by trivial⟩
          case measure => simp [intOf]; omega
        · obtain rfl : j = rn := by omega
          go_wp2
          go_roundw
          case rel => exact ⟨k + 1, by omega, by go_num, HBZ⟩
          case measure => simp [intOf]; omega
    · obtain rfl : k = n := by omega
      go_wp2
      go_ret
      exact ⟨rfl, HB.out⟩
theorem nm1 (s : ByteArray) (w : World) (hx : Mxl w) (hs : s.size ≤ maxLen) : Calls Tryz.prog 109 #[.string s] w fun x w' => x = .returned (.bool (!Par.nameOK s)) ∧ Below w.heap.size w w' := by
  have hn := isNm hx hs
  go_enter Tryz.func109, Tryz.ntmps109
  go_wp2_with fail
  refine hn.mono ?_
  rintro x w1 ⟨rfl, hb1⟩
  go_wp2
  go_ret
  exact ⟨rfl, hb1⟩
set_option maxRecDepth 100000 in
set_option maxHeartbeats 4000000 in
theorem formLab {w : World} {S : Nat → Prop} {v : Value} {l : List Po} (hx : Mxl w) (h : LabV w S v l) (hl : Par.labOK l = true) : Calls Tryz.prog 74 #[v] w fun e w' => e = .returned (.bool true) ∧ Below w.heap.size w w' := by
  have hlong := longL h hl
  obtain ⟨h200, hpo⟩ := lab_parts hl
  obtain ⟨ao, b, off, c, rfl, _, _, hp⟩ := h.toP
  obtain ⟨n, hn⟩ : ∃ n, n = l.length := ⟨_, rfl⟩
  rw [← hn] at h200 hlong ⊢
  have HN : Hid (n = l.length) := hn
  have HP : Hid (Pols w ao b off l) := hp.pols
  have HO : Hid (∀ p ∈ l, Par.PolOK p) := hpo
  have HX : Hid (Mxl w) := hx
  clear hn hp hpo hl h hx
  go_enter Tryz.func74, Tryz.ntmps74
  go_wp2_with fail
  refine hlong.mono ?_
  rintro e w1 ⟨rfl, hb1⟩
  have HB1 : Hid (Below w.heap.size w w1) := hb1
  clear hb1 hlong
  go_wp2
  go_loopw [9] (fun i wr => ∃ k : Nat, k ≤ n ∧ i = .int .i64 k ∧ Hid (Below w.heap.size w wr)) (fun i _ => n - (intOf i).toNat)
  case atStart => exact ⟨0, Nat.zero_le _, rfl, HB1⟩
  case round =>
    obtain ⟨k, hk, rfl, HB⟩ := hrel
    by_cases hlt : k < n
    · have hkl : k < l.length := by have := HN.out; omega
      have hX := HP.out.later HB.out
      have hao := hX.adr (by omega)
      have f0 := hX.c0 k hkl
      obtain ⟨pv, f1, hv⟩ := hX.c1 k hkl
      have ho := HO.out _ (List.getElem_mem hkl)
      have lb := hX.lt (by omega)
      obtain ⟨q, hq⟩ : ∃ q, q = l[k] := ⟨_, rfl⟩
      rw [← hq] at f0 hv ho
      obtain ⟨o, rs⟩ := q
      obtain ⟨o1, o2, o3⟩ := ho
      simp only at f0 o1 o2 o3 hv
      have o4 := Par.ok_size o1
      obtain ⟨ro, rb, roff, rc, hv0, _, _, hv3⟩ := hv
      obtain ⟨rn, hrn⟩ : ∃ rn, rn = rs.length := ⟨_, rfl⟩
      rw [← hrn] at hv0 o3
      subst hv0
      obtain ⟨wz, hwz⟩ : ∃ wz, wz = wr.alloc (.cells #[.string o, .slice ro rn rc] 56) := ⟨_, rfl⟩
      have hbz : Below wr.heap.size wr wz := by rw [hwz]; exact (Below.refl _ _).alloc (Nat.le_refl _) _
      have hbw : Below w.heap.size w wz := HB.out.trans (hbz.mono HB.out.size)
      have HST : Hid (Strs wz ro rb roff rs) := hv3.later hbz
      have HRN : Hid (rn = rs.length) := hrn
      have HO2 : Hid (∀ s ∈ rs, Par.nameOK s = true) := o2
      have HBZ : Hid (Below w.heap.size w wz) := hbw
      have HWZ : Hid (wz = wr.alloc (.cells #[.string o, .slice ro rn rc] 56)) := hwz
      have HZ0 : Hid (wz.heap[wr.heap.size]? = some (.cells #[.string o, .slice ro rn rc] 56 (0, 0))) := by show _ = _; rw [hwz]; exact heap_at_alloc _ _ _ rfl
      have hnm := isNm (s := o) (HX.out.later hbw) (by unfold maxLen; omega)
      rw [o1] at hnm
      subst hao
      clear hX hq hrn hv3 hbz hwz o1 o2 hbw
      go_wp2_with fail
      rw [← HWZ.out]
      refine hnm.mono ?_
      rintro e w2 ⟨rfl, hb2⟩
      have HB2 : Hid (Below w.heap.size w w2) := HBZ.out.trans (hb2.mono HBZ.out.size)
      have hz2 : w2.heap[wr.heap.size]? = some (.cells #[.string o, .slice ro rn rc] 56 (0, 0)) := (hb2.block _ (lt_of_block HZ0.out)).trans HZ0.out
      have z1 : w2.cell? ⟨wr.heap.size, 1, none⟩ = some (.slice ro rn rc) := by simp [World.cell?, hz2]
      have lz2 := lt_of_block hz2
      have hcf := containsFuncS 109 #[] (enters_of Tryz.func109 (by kernel_rfl) rfl) (fun s => !Par.nameOK s) ro rb roff rn rc rs w2 HRN.out (by omega) (HST.out.later hb2) (fun W s hs hW => nm1 s W ((HX.out.later HB2.out).later hW) (by have := Par.ok_size (HO2.out s hs); unfold maxLen; omega))
      have hany : (rs.any fun s => !Par.nameOK s) = false := List.any_eq_false.2 fun s hs => by simp [HO2.out s hs]
      rw [hany] at hcf
      clear hb2 hz2 hnm hany f0 f1
      go_wp2_with fail
      refine hcf.mono ?_
      rintro e w3 ⟨rfl, hb3⟩
      have HB3 : Hid (Below w.heap.size w w3) := HB2.out.trans (hb3.mono HB2.out.size)
      clear hb3 hcf z1 lz2
      go_wp2
      go_roundw
      case rel => exact ⟨k + 1, by omega, by go_num, HB3⟩
      case measure => simp [intOf]; omega
    · obtain rfl : k = n := by omega
      go_wp2
      go_ret
      exact ⟨rfl, HB.out⟩
end Go.Proofs.YtcdeicfegfedfaaGreatDoor

namespace Go.Proofs.YtcdeicfegfedfaaGreatDoor
open Go.RowKit
open Par (Tr Po ba)

/- Deep. -/
def DpC (t : Tr) : Prop := ∀ (w : World) (S : Nat → Prop) (ca : List Value), TrIs w S t ca → Par.deepT t ≤ 100000 → Calls Tryz.prog 42 #[.agg ca.toArray] w fun e w' => e = .returned (.int .i64 (Par.deepT t : Int)) ∧ Below w.heap.size w w'
theorem deepL_take {a : List Tr} {j : Nat} (h : j < a.length) : Par.deepL (a.take (j + 1)) = max (Par.deepL (a.take j)) (Par.deepT a[j]) := by
  rw [List.take_succ_eq_append_getElem h, Par.deepL_snoc]
theorem deepL_mono {a : List Tr} (j : Nat) : Par.deepL (a.take j) ≤ Par.deepL a := Par.deepL_le.2 fun x hx => Par.deepL_le.1 (Nat.le_refl _) x (List.mem_of_mem_take hx)
set_option maxRecDepth 100000 in
set_option maxHeartbeats 8000000 in
theorem deep_step {t : Tr} (hk : ∀ i (h : i < (Par.kidsOf t).length), DpC (Par.kidsOf t)[i]) : DpC t := by
  intro w S ca ha hd
  cases ha with
  | @mk k p n ty s l a lv av css hs hl hr hcl hkk =>
  simp only [Par.kidsOf] at hk
  obtain ⟨ao, ab, aoff, ac, rfl, har⟩ := hr
  obtain ⟨m, hm⟩ : ∃ m, m = a.length := ⟨_, rfl⟩
  have hmx : m ≤ maxLen := by rw [hm, ← hcl]; exact Nat.le_trans har.cap har.mx
  obtain ⟨lo, ln, lc, rfl⟩ : ∃ lo ln lc, lv = .slice lo ln lc := by obtain ⟨_, _, _, _, h, _⟩ := hl.toP; exact ⟨_, _, _, h⟩
  rw [hcl, ← hm]
  obtain ⟨wz, hwz⟩ : ∃ wz, wz = w.alloc (.cells #[.int .i64 k, .int .i64 p, .int .i64 n, .int .i64 ty, .string s, .slice lo ln lc, .slice ao m ac] 26) := ⟨_, rfl⟩
  have HWZ : Hid (wz = w.alloc (.cells #[.int .i64 k, .int .i64 p, .int .i64 n, .int .i64 ty, .string s, .slice lo ln lc, .slice ao m ac] 26)) := hwz
  have hbz : Below w.heap.size w wz := by rw [hwz]; exact (Below.refl _ _).alloc (Nat.le_refl _) _
  have HZ1 : Hid (wz.heap[w.heap.size]? = some (.cells #[.int .i64 k, .int .i64 p, .int .i64 n, .int .i64 ty, .string s, .slice lo ln lc, .slice ao m ac] 26 (0, 0))) := by
    show _ = _
    rw [hwz]
    exact heap_at_alloc _ _ _ rfl
  have HBZ : Hid (Below w.heap.size w wz) := hbz
  have HK : Hid (∀ i (h : i < a.length), DpC a[i]) := hk
  have HA : Hid (RowAt w S 7 ao ab aoff css.length ac css) := har
  have HKA : Hid (∀ i (h : i < a.length) (h' : i < css.length), TrIs w S a[i] css[i]) := hkk
  have HM : Hid (m = a.length) := hm
  have HC1 : Hid (css.length = a.length) := hcl
  have HD : Hid (Par.deepL a ≤ 99999) := by show _ ≤ _; have h9 : Par.deepL a + 1 ≤ 100000 := hd; omega
  obtain ⟨dd, hdd⟩ : ∃ dd, dd = Par.deepT (.mk k p n ty s l a) := ⟨_, rfl⟩
  rw [← hdd]
  have HDD : Hid (dd = Par.deepL a + 1) := hdd
  unfold maxLen at hmx
  clear hk hkk hl hm har hcl hs hbz hwz hd hdd
  go_enter Tryz.func42, Tryz.ntmps42
  obtain ⟨⟨z0, z1, z2, z3, z4, z5, z6⟩, _⟩ := blkE HZ1.out
  have lz1 := lt_of_block HZ1.out
  go_upto_region 1 with fail
  rw [← HWZ.out]
  go_wp2
  go_loopw [9, 3] (fun i q wr => ∃ j : Nat, j ≤ m ∧ i = .int .i64 j ∧ q = .int .i64 (Par.deepL (a.take j) : Int) ∧ Hid (Below wz.heap.size wz wr)) (fun i _ _ => m - (intOf i).toNat)
  case atStart => exact ⟨0, Nat.zero_le _, rfl, rfl, Below.refl _ _⟩
  case round =>
    obtain ⟨j, hj, rfl, rfl, HBr⟩ := hrel
    have lw := HBr.out.size
    by_cases hlt : j < m
    · have hja : j < a.length := by have := HM.out; omega
      have hj1 : j < css.length := by rw [HC1.out]; exact hja
      obtain rfl := HA.out.adr (by omega)
      have h1 := HKA.out j hja hj1
      have c1 := fun i u => HA.out.cell j hj1 i u
      have la := HA.out.lt (by omega)
      obtain ⟨x0, x1, x2, x3, x4, x5, mx5, dx5, x6, mx6, dx6, hx⟩ := tr_open7 h1
      rw [hx] at h1 c1
      have hb9 : Below w.heap.size w wr := HBZ.out.trans (HBr.out.mono HBZ.out.size)
      obtain ⟨hcl, _⟩ := bcell hb9
      have p0 : wr.cell? ⟨ab, aoff + j * 7, none⟩ = some (.int .i64 x0) := (hcl _ _ la).trans (c1 0 _ rfl)
      have p1 : wr.cell? ⟨ab, aoff + j * 7 + 1, none⟩ = some (.int .i64 x1) := (hcl _ _ la).trans (c1 1 _ rfl)
      have p2 : wr.cell? ⟨ab, aoff + j * 7 + 2, none⟩ = some (.int .i64 x2) := (hcl _ _ la).trans (c1 2 _ rfl)
      have p3 : wr.cell? ⟨ab, aoff + j * 7 + 3, none⟩ = some (.int .i64 x3) := (hcl _ _ la).trans (c1 3 _ rfl)
      have p4 : wr.cell? ⟨ab, aoff + j * 7 + 4, none⟩ = some (.string x4) := (hcl _ _ la).trans (c1 4 _ rfl)
      have p5 : wr.cell? ⟨ab, aoff + j * 7 + 5, none⟩ = some (.slice x5 mx5 dx5) := (hcl _ _ la).trans (c1 5 _ rfl)
      have p6 : wr.cell? ⟨ab, aoff + j * 7 + 6, none⟩ = some (.slice x6 mx6 dx6) := (hcl _ _ la).trans (c1 6 _ rfl)
      obtain ⟨wy, hwy⟩ : ∃ wy, wy = wr.alloc (.cells #[.int .i64 x0, .int .i64 x1, .int .i64 x2, .int .i64 x3, .string x4, .slice x5 mx5 dx5, .slice x6 mx6 dx6] 26) := ⟨_, rfl⟩
      have hby : Below wr.heap.size wr wy := by rw [hwy]; exact (Below.refl _ _).alloc (Nat.le_refl _) _
      have hb2 : Below w.heap.size w wy := hb9.trans (hby.mono hb9.size)
      have hdj : Par.deepT a[j] ≤ 99999 := Nat.le_trans (Par.deepL_le.1 (Nat.le_refl _) _ (List.getElem_mem hja)) HD.out
      have hcall := HK.out j hja wy (fun b => S b ∧ b < w.heap.size) _ (TrIs.keeps (h1.mono fun b hb hl => ⟨hb, hl⟩) ⟨hb2.size, fun b hb _ => hb2.block b hb.2⟩) (by omega)
      have HBY : Hid (Below wz.heap.size wz wy) := HBr.out.trans (hby.mono lw)
      have HWY : Hid (wy = wr.alloc (.cells #[.int .i64 x0, .int .i64 x1, .int .i64 x2, .int .i64 x3, .string x4, .slice x5 mx5 dx5, .slice x6 mx6 dx6] 26)) := hwy
      have lr : ab < wr.heap.size := by have := hb9.size; omega
      have HDT : Hid (Par.deepL (a.take (j + 1)) = max (Par.deepL (a.take j)) (Par.deepT a[j])) := deepL_take hja
      obtain ⟨dj, hdj2⟩ : ∃ dj, dj = Par.deepT a[j] := ⟨_, rfl⟩
      obtain ⟨dk, hdk⟩ : ∃ dk, dk = Par.deepL (a.take j) := ⟨_, rfl⟩
      rw [← hdj2] at hcall HDT
      rw [← hdk] at HDT
      rw [← hdk]
      clear h1 c1 hx hcl hby hb2 hb9 hwy hdj hdj2 hdk
      go_wp2_with fail
      rw [← HWY.out]
      refine hcall.mono ?_
      rintro e w2 ⟨rfl, hb3⟩
      have HBn : Hid (Below wz.heap.size wz w2) := HBY.out.trans (hb3.mono HBY.out.size)
      clear hb3 hcall
      go_wp2
      go_roundw
      case rel =>
        refine ⟨j + 1, by omega, by go_num, ?_, HBn⟩
        rw [HDT.out]
        congr 1
        omega
      case measure => simp [intOf]; omega
    · obtain rfl : j = m := by omega
      have htk : a.take j = a := List.take_of_length_le (by have := HM.out; omega)
      rw [htk]
      obtain ⟨da, hda⟩ : ∃ da, da = Par.deepL a := ⟨_, rfl⟩
      rw [← hda] at HDD HD ⊢
      have hle := HD.out
      clear hda htk
      go_wp2
      go_ret
      refine ⟨?_, HBZ.out.trans (HBr.out.mono HBZ.out.size)⟩
      rw [HDD.out]
      go_num
theorem deepC : ∀ (m : Nat) (t : Tr), Par.deepT t ≤ m → DpC t := by
  intro m
  induction m with
  | zero => intro t h; have := Par.deep_pos t; omega
  | succ m ih =>
    intro t h
    obtain ⟨k, p, n, ty, s, l, a⟩ := t
    exact deep_step fun i hi => ih _ (deep_kids h i hi)
end Go.Proofs.YtcdeicfegfedfaaGreatDoor

namespace Go.Proofs.YtcdeicfegfedfaaGreatDoor
open Go.RowKit
open Par (Tr Po ba)

theorem alone_cases {k p n t : Int} {s : ByteArray} {l : List Po} {a : List Tr} (h : Par.aloneF (.mk k p n t s l a) = true) :
    (k = 1 ∧ l.length = 0 ∧ a.length = 0 ∧ s.data.toList = [] ∧ ((t = 1 ∧ 0 ≤ n ∧ n ≤ 999999999) ∨ (t = 2 ∧ 0 ≤ n ∧ n ≤ 1))) ∨ (k = 2 ∧ n = 0 ∧ t = 0 ∧ l.length = 0 ∧ a.length = 0 ∧ Par.nameOK s = true) ∨
    (k = 3 ∧ n = 0 ∧ t = 0 ∧ l.length = 0 ∧ ((a.length = 2 ∧ 0 < Par.levF s.data.toList) ∨ (a.length = 1 ∧ (s.data.toList = [45] ∨ s.data.toList = [33])))) ∨
    (k = 4 ∧ n = 0 ∧ t = 0 ∧ l.length = 0 ∧ a.length ≤ 4 ∧ Par.nameOK s = true) ∨ (k = 5 ∧ n = 0 ∧ t = 0 ∧ a.length = 1 ∧ s.data.toList = [] ∧ Par.labOK l = true) := by
  dsimp only [Par.aloneF] at h
  split at h
  · cases h
  rename_i h1
  split at h
  · cases h
  rename_i h2
  split at h
  · rename_i hk
    left
    simp only [Bool.and_eq_true, beq_iff_eq] at h
    obtain ⟨⟨h3, h4⟩, h5⟩ := h
    refine ⟨hk, ?_, h5, h4, ?_⟩
    · apply Classical.byContradiction
      intro h9
      exact h2 ⟨by omega, by omega⟩
    · unfold Par.numOK at h3
      simp only [Bool.or_eq_true, Bool.and_eq_true, beq_iff_eq, decide_eq_true_eq] at h3
      omega
  have hz : n = 0 ∧ t = 0 := by
    rename_i hk
    constructor
    · apply Classical.byContradiction
      intro h9
      exact h1 ⟨hk, .inl h9⟩
    · apply Classical.byContradiction
      intro h9
      exact h1 ⟨hk, .inr h9⟩
  split at h
  · rename_i hk
    simp only [Bool.and_eq_true, beq_iff_eq] at h
    exact .inr (.inl ⟨hk, hz.1, hz.2, (by apply Classical.byContradiction; intro h9; exact h2 ⟨by omega, by omega⟩), h.2, h.1⟩)
  split at h
  · rename_i hk
    simp only [Bool.or_eq_true, Bool.and_eq_true, beq_iff_eq, decide_eq_true_eq] at h
    exact .inr (.inr (.inl ⟨hk, hz.1, hz.2, (by apply Classical.byContradiction; intro h9; exact h2 ⟨by omega, by omega⟩), h⟩))
  split at h
  · rename_i hk
    simp only [Bool.and_eq_true, decide_eq_true_eq] at h
    exact .inr (.inr (.inr (.inl ⟨hk, hz.1, hz.2, (by apply Classical.byContradiction; intro h9; exact h2 ⟨by omega, by omega⟩), h.2, h.1⟩)))
  split at h
  · rename_i hk
    simp only [Bool.and_eq_true, beq_iff_eq] at h
    exact .inr (.inr (.inr (.inr ⟨hk, hz.1, hz.2, h.2, h.1.2, h.1.1⟩)))
  · cases h
def FxC (t : Tr) : Prop := ∀ (w : World) (S : Nat → Prop) (ca : List Value), TrIs w S t ca → Mxl w → Par.formE t = true → Calls Tryz.prog 43 #[.agg ca.toArray] w fun e w' => e = .returned (.bool true) ∧ Below w.heap.size w w'
set_option maxRecDepth 100000 in
set_option maxHeartbeats 8000000 in
theorem formx_step {t : Tr} (hk : ∀ i (h : i < (Par.kidsOf t).length), FxC (Par.kidsOf t)[i]) : FxC t := by
  intro w S ca ha hmx0 hf
  cases ha with
  | @mk k p n ty s l a lv av css hs hl hr hcl hkk =>
  simp only [Par.kidsOf] at hk
  obtain ⟨ao, ab, aoff, ac, rfl, har⟩ := hr
  obtain ⟨m, hm⟩ : ∃ m, m = a.length := ⟨_, rfl⟩
  have hmx : m ≤ maxLen := by rw [hm, ← hcl]; exact Nat.le_trans har.cap har.mx
  have hf2 : (Par.aloneF (.mk k p n ty s l a) && Par.formL a) = true := hf
  rw [Bool.and_eq_true, Par.formL_all, List.all_eq_true] at hf2
  obtain ⟨lo, lc, rfl⟩ : ∃ lo lc, lv = .slice lo l.length lc := by obtain ⟨_, _, _, _, h, _⟩ := hl.toP; exact ⟨_, _, h⟩
  obtain ⟨ln, hln⟩ : ∃ ln, ln = l.length := ⟨_, rfl⟩
  have HLV : Hid (LabV w S (.slice lo l.length lc) l) := hl
  have HLN : Hid (ln = l.length) := hln
  rw [hcl, ← hm, ← hln]
  obtain ⟨wz, hwz⟩ : ∃ wz, wz = w.alloc (.cells #[.int .i64 k, .int .i64 p, .int .i64 n, .int .i64 ty, .string s, .slice lo ln lc, .slice ao m ac] 26) := ⟨_, rfl⟩
  have HWZ : Hid (wz = w.alloc (.cells #[.int .i64 k, .int .i64 p, .int .i64 n, .int .i64 ty, .string s, .slice lo ln lc, .slice ao m ac] 26)) := hwz
  have hbz : Below w.heap.size w wz := by rw [hwz]; exact (Below.refl _ _).alloc (Nat.le_refl _) _
  have HZ1 : Hid (wz.heap[w.heap.size]? = some (.cells #[.int .i64 k, .int .i64 p, .int .i64 n, .int .i64 ty, .string s, .slice lo ln lc, .slice ao m ac] 26 (0, 0))) := by
    show _ = _
    rw [hwz]
    exact heap_at_alloc _ _ _ rfl
  have HBZ : Hid (Below w.heap.size w wz) := hbz
  have HK : Hid (∀ i (h : i < a.length), FxC a[i]) := hk
  have HA : Hid (RowAt w S 7 ao ab aoff css.length ac css) := har
  have HKA : Hid (∀ i (h : i < a.length) (h' : i < css.length), TrIs w S a[i] css[i]) := hkk
  have HM : Hid (m = a.length) := hm
  have HC1 : Hid (css.length = a.length) := hcl
  have HAl : Hid (Par.aloneF (.mk k p n ty s l a) = true) := hf2.1
  have HFk : Hid (∀ x ∈ a, Par.formE x = true) := hf2.2
  have HX : Hid (Mxl w) := hmx0
  have HS : Hid (s.size ≤ maxLen) := hs
  have HC : Hid (∀ w', Below wz.heap.size wz w' → w.heap.size < w'.heap.size ∧ w'.cell? ⟨w.heap.size, 0, none⟩ = some (.int .i64 k) ∧ w'.cell? ⟨w.heap.size, 2, none⟩ = some (.int .i64 n) ∧ w'.cell? ⟨w.heap.size, 3, none⟩ = some (.int .i64 ty) ∧ w'.cell? ⟨w.heap.size, 4, none⟩ = some (.string s) ∧ w'.cell? ⟨w.heap.size, 5, none⟩ = some (.slice lo ln lc) ∧ w'.cell? ⟨w.heap.size, 6, none⟩ = some (.slice ao m ac)) := by
    intro w' hb'
    have h9 := (hb'.block _ (lt_of_block HZ1.out)).trans HZ1.out
    obtain ⟨⟨y0, y1, y2, y3, y4, y5, y6⟩, _⟩ := blkE h9
    exact ⟨lt_of_block h9, y0, y2, y3, y4, y5, y6⟩
  unfold maxLen at hmx
  clear hk hkk hl hm har hcl hs hbz hwz hf hf2 hmx0 hln
  go_enter Tryz.func43, Tryz.ntmps43
  obtain ⟨lz, z0, z2, z3, z4, z5, z6⟩ := HC.out wz (Below.refl _ _)
  go_upto_region 1 with fail
  rw [← HWZ.out]
  go_wp2
  go_loopw [10] (fun i wr => ∃ j : Nat, j ≤ m ∧ i = .int .i64 j ∧ Hid (Below wz.heap.size wz wr)) (fun i _ => m - (intOf i).toNat)
  case atStart => exact ⟨0, Nat.zero_le _, rfl, Below.refl _ _⟩
  case round =>
    obtain ⟨j, hj, rfl, HBr⟩ := hrel
    have lw := HBr.out.size
    clear z0 z2 z3 z4 z5 z6
    by_cases hlt : j < m
    · have hja : j < a.length := by have := HM.out; omega
      have hj1 : j < css.length := by rw [HC1.out]; exact hja
      obtain rfl := HA.out.adr (by omega)
      have h1 := HKA.out j hja hj1
      have c1 := fun i u => HA.out.cell j hj1 i u
      have la := HA.out.lt (by omega)
      obtain ⟨x0, x1, x2, x3, x4, x5, mx5, dx5, x6, mx6, dx6, hx⟩ := tr_open7 h1
      rw [hx] at h1 c1
      have hb9 : Below w.heap.size w wr := HBZ.out.trans (HBr.out.mono HBZ.out.size)
      obtain ⟨hcl, _⟩ := bcell hb9
      have p0 : wr.cell? ⟨ab, aoff + j * 7, none⟩ = some (.int .i64 x0) := (hcl _ _ la).trans (c1 0 _ rfl)
      have p1 : wr.cell? ⟨ab, aoff + j * 7 + 1, none⟩ = some (.int .i64 x1) := (hcl _ _ la).trans (c1 1 _ rfl)
      have p2 : wr.cell? ⟨ab, aoff + j * 7 + 2, none⟩ = some (.int .i64 x2) := (hcl _ _ la).trans (c1 2 _ rfl)
      have p3 : wr.cell? ⟨ab, aoff + j * 7 + 3, none⟩ = some (.int .i64 x3) := (hcl _ _ la).trans (c1 3 _ rfl)
      have p4 : wr.cell? ⟨ab, aoff + j * 7 + 4, none⟩ = some (.string x4) := (hcl _ _ la).trans (c1 4 _ rfl)
      have p5 : wr.cell? ⟨ab, aoff + j * 7 + 5, none⟩ = some (.slice x5 mx5 dx5) := (hcl _ _ la).trans (c1 5 _ rfl)
      have p6 : wr.cell? ⟨ab, aoff + j * 7 + 6, none⟩ = some (.slice x6 mx6 dx6) := (hcl _ _ la).trans (c1 6 _ rfl)
      obtain ⟨wy, hwy⟩ : ∃ wy, wy = wr.alloc (.cells #[.int .i64 x0, .int .i64 x1, .int .i64 x2, .int .i64 x3, .string x4, .slice x5 mx5 dx5, .slice x6 mx6 dx6] 26) := ⟨_, rfl⟩
      have hby : Below wr.heap.size wr wy := by rw [hwy]; exact (Below.refl _ _).alloc (Nat.le_refl _) _
      have hb2 : Below w.heap.size w wy := hb9.trans (hby.mono hb9.size)
      have hcall := HK.out j hja wy (fun b => S b ∧ b < w.heap.size) _ (TrIs.keeps (h1.mono fun b hb hl => ⟨hb, hl⟩) ⟨hb2.size, fun b hb _ => hb2.block b hb.2⟩) (HX.out.later hb2) (HFk.out _ (List.getElem_mem hja))
      have HBY : Hid (Below wz.heap.size wz wy) := HBr.out.trans (hby.mono lw)
      have HWY : Hid (wy = wr.alloc (.cells #[.int .i64 x0, .int .i64 x1, .int .i64 x2, .int .i64 x3, .string x4, .slice x5 mx5 dx5, .slice x6 mx6 dx6] 26)) := hwy
      have lr : ab < wr.heap.size := by have := hb9.size; omega
      clear h1 c1 hx hcl hby hb2 hb9 hwy
      go_wp2_with fail
      rw [← HWY.out]
      refine hcall.mono ?_
      rintro e w2 ⟨rfl, hb3⟩
      have HBn : Hid (Below wz.heap.size wz w2) := HBY.out.trans (hb3.mono HBY.out.size)
      clear hb3 hcall
      go_wp2
      go_roundw
      case rel => exact ⟨j + 1, by omega, by go_num, HBn⟩
      case measure => simp [intOf]; omega
    · obtain rfl : j = m := by omega
      have HB9 : Hid (Below w.heap.size w wr) := HBZ.out.trans (HBr.out.mono HBZ.out.size)
      have hal := HAl.out
      obtain ⟨lzr, z0, z2, z3, z4, z5, z6⟩ := HC.out wr HBr.out
      rcases alone_cases hal with ⟨rfl, hl0, ha0, hs0, hty⟩ | ⟨rfl, rfl, rfl, hl0, ha0, hnm⟩ | ⟨rfl, rfl, rfl, hl0, hop⟩ | ⟨rfl, rfl, rfl, hl0, ha4, hnm⟩ | ⟨rfl, rfl, rfl, ha1, hs0, hlb⟩
      · have hm0 : j = 0 := by rw [HM.out]; exact ha0
        have hn0 : ln = 0 := by rw [HLN.out]; exact hl0
        subst hm0 hn0
        have he : s.toList.isEmpty = true := by rw [emptyB, hs0]; rfl
        have hmm := @run_makeMap Tryz.prog
        obtain ⟨w1, w2, r1, r2, hb2, l1, l2⟩ := top_map wr
        have HBn : Hid (Below wz.heap.size wz w2) := HBr.out.trans (hb2.mono lw)
        obtain ⟨lzs, y0, y2, y3, y4, y5, y6⟩ := HC.out w2 HBn.out
        clear hal ha0 hl0 hs0 hb2
        rcases hty with ⟨rfl, hn1, hn2⟩ | ⟨rfl, hn1, hn2⟩
        · have d0 : decide ((0 : Int) ≤ n) = true := decide_eq_true hn1
          have d9 : decide (n ≤ (999999999 : Int)) = true := decide_eq_true hn2
          clear l2 hn1 hn2
          by_cases hq : n = 0
          · subst hq
            go_wp2
            go_ret
            exact ⟨rfl, HBZ.out.trans (HBn.out.mono HBZ.out.size)⟩
          · have bq : (n == 0) = false := by simp [hq]
            go_wp2
            go_ret
            exact ⟨rfl, HBZ.out.trans (HBn.out.mono HBZ.out.size)⟩
        · have d0 : decide ((0 : Int) ≤ n) = true := decide_eq_true hn1
          have d9 : decide (n ≤ (1 : Int)) = true := decide_eq_true hn2
          clear l1 hn1 hn2
          by_cases hq : n = 0
          · subst hq
            go_wp2
            go_ret
            exact ⟨rfl, HBZ.out.trans (HBn.out.mono HBZ.out.size)⟩
          · have bq : (n == 0) = false := by simp [hq]
            go_wp2
            go_ret
            exact ⟨rfl, HBZ.out.trans (HBn.out.mono HBZ.out.size)⟩
      · have hm0 : j = 0 := by rw [HM.out]; exact ha0
        have hn0 : ln = 0 := by rw [HLN.out]; exact hl0
        subst hm0 hn0
        have hcall := isNm (s := s) (HX.out.later HB9.out) HS.out
        rw [hnm] at hcall
        clear hal ha0 hl0 hnm
        go_wp2_with fail
        refine hcall.mono ?_
        rintro e w2 ⟨rfl, hb2⟩
        have HBn : Hid (Below wz.heap.size wz w2) := HBr.out.trans (hb2.mono lw)
        clear hb2 hcall z0 z2 z3 z4 z5 z6 lzr
        obtain ⟨lzr, z0, z2, z3, z4, z5, z6⟩ := HC.out w2 HBn.out
        go_wp2
        go_ret
        exact ⟨rfl, HBZ.out.trans (HBn.out.mono HBZ.out.size)⟩
      · have hn0 : ln = 0 := by rw [HLN.out]; exact hl0
        subst hn0
        clear hal hl0
        rcases hop with ⟨ha2, hlv⟩ | ⟨ha1, hsg⟩
        · have hm2 : j = 2 := by rw [HM.out]; exact ha2
          subst hm2
          have hcall := levelD s HS.out wr
          rw [Lex.list_of] at hcall
          obtain ⟨lev, e1⟩ : ∃ t, t = Par.levF s.data.toList := ⟨_, rfl⟩
          rw [← e1] at hcall hlv
          have d0 : decide ((0 : Int) < (lev : Int)) = true := by simp; omega
          clear e1 ha2
          go_wp2_with fail
          refine hcall.mono ?_
          rintro e w2 ⟨rfl, hb2⟩
          have HBn : Hid (Below wz.heap.size wz w2) := HBr.out.trans (hb2.mono lw)
          clear hb2 hcall z0 z2 z3 z4 z5 z6 lzr
          obtain ⟨lzr, z0, z2, z3, z4, z5, z6⟩ := HC.out w2 HBn.out
          go_wp2
          go_ret
          exact ⟨rfl, HBZ.out.trans (HBn.out.mono HBZ.out.size)⟩
        · have hm1 : j = 1 := by rw [HM.out]; exact ha1
          subst hm1
          rcases hsg with hsg | hsg
          · have e1 : (s.toList == [45]) = true := by rw [Lex.list_of, hsg]; rfl
            have e2 : (s.toList == [33]) = false := by rw [Lex.list_of, hsg]; rfl
            clear hsg ha1
            go_wp2
            go_ret
            exact ⟨rfl, HBZ.out.trans (HBr.out.mono HBZ.out.size)⟩
          · have e2 : (s.toList == [33]) = true := by rw [Lex.list_of, hsg]; rfl
            clear hsg ha1
            go_wp2
            go_ret
            exact ⟨rfl, HBZ.out.trans (HBr.out.mono HBZ.out.size)⟩
      · have hn0 : ln = 0 := by rw [HLN.out]; exact hl0
        subst hn0
        have hj4 : j ≤ 4 := by rw [HM.out]; exact ha4
        have d4 : decide ((j : Int) ≤ 4) = true := by simp; omega
        have hcall := isNm (s := s) (HX.out.later HB9.out) HS.out
        rw [hnm] at hcall
        clear hal ha4 hl0 hnm
        go_wp2_with fail
        refine hcall.mono ?_
        rintro e w2 ⟨rfl, hb2⟩
        have HBn : Hid (Below wz.heap.size wz w2) := HBr.out.trans (hb2.mono lw)
        clear hb2 hcall z0 z2 z3 z4 z5 z6 lzr
        obtain ⟨lzr, z0, z2, z3, z4, z5, z6⟩ := HC.out w2 HBn.out
        go_wp2
        go_ret
        exact ⟨rfl, HBZ.out.trans (HBn.out.mono HBZ.out.size)⟩
      · have hm1 : j = 1 := by rw [HM.out]; exact ha1
        subst hm1
        have he : s.toList.isEmpty = true := by rw [emptyB, hs0]; rfl
        have hcall := formLab (HX.out.later HB9.out) ((HLV.out.mono fun b _ hl => hl).keeps ⟨HB9.out.size, fun b hb _ => HB9.out.block b hb⟩) hlb
        rw [← HLN.out] at hcall
        clear hal ha1 hs0 hlb
        go_wp2_with fail
        refine hcall.mono ?_
        rintro e w2 ⟨rfl, hb2⟩
        have HBn : Hid (Below wz.heap.size wz w2) := HBr.out.trans (hb2.mono lw)
        clear hb2 hcall z0 z2 z3 z4 z5 z6 lzr
        go_wp2
        go_ret
        exact ⟨rfl, HBZ.out.trans (HBn.out.mono HBZ.out.size)⟩
theorem formxC : ∀ (m : Nat) (t : Tr), Par.deepT t ≤ m → FxC t := by
  intro m
  induction m with
  | zero => intro t h; have := Par.deep_pos t; omega
  | succ m ih =>
    intro t h
    obtain ⟨k, p, n, ty, s, l, a⟩ := t
    exact formx_step fun i hi => ih _ (deep_kids h i hi)
set_option maxRecDepth 100000 in
set_option maxHeartbeats 4000000 in
theorem isFormC {w : World} {S : Nat → Prop} {t : Tr} {ca : List Value} (ha : TrIs w S t ca) (hx : Mxl w) (hd : Par.deepT t ≤ 100000) (hf : Par.formE t = true) : Calls Tryz.prog 19 #[.agg ca.toArray] w fun e w' => e = .returned (.bool (Par.formD 12 t)) ∧ Below w.heap.size w w' := by
  have hform : Par.formD 12 t = decide (Par.deepT t ≤ 12) := by
    rw [Bool.eq_iff_iff, Par.form_deep, decide_eq_true_eq]
    exact ⟨fun h => h.1, fun h => ⟨h, hf⟩⟩
  rw [hform]
  obtain ⟨x0, x1, x2, x3, x4, x5, mx5, dx5, x6, mx6, dx6, rfl⟩ := tr_open7 ha
  obtain ⟨wz, hwz⟩ : ∃ wz, wz = w.alloc (.cells #[.int .i64 x0, .int .i64 x1, .int .i64 x2, .int .i64 x3, .string x4, .slice x5 mx5 dx5, .slice x6 mx6 dx6] 26) := ⟨_, rfl⟩
  have hbz : Below w.heap.size w wz := by rw [hwz]; exact (Below.refl _ _).alloc (Nat.le_refl _) _
  have hz1 : wz.heap[w.heap.size]? = some (.cells #[.int .i64 x0, .int .i64 x1, .int .i64 x2, .int .i64 x3, .string x4, .slice x5 mx5 dx5, .slice x6 mx6 dx6] 26 (0, 0)) := by rw [hwz]; exact heap_at_alloc _ _ _ rfl
  have HTR : Hid (∀ w', Below w.heap.size w w' → TrIs w' (fun b => S b ∧ b < w.heap.size) t [.int .i64 x0, .int .i64 x1, .int .i64 x2, .int .i64 x3, .string x4, .slice x5 mx5 dx5, .slice x6 mx6 dx6]) := fun w' hb => TrIs.keeps (ha.mono fun b hb hl => ⟨hb, hl⟩) ⟨hb.size, fun b hq _ => hb.block b hq.2⟩
  have hdc := deepC _ t (Nat.le_refl _) wz _ _ (HTR.out wz hbz) hd
  have HZ1 : Hid (wz.heap[w.heap.size]? = some (.cells #[.int .i64 x0, .int .i64 x1, .int .i64 x2, .int .i64 x3, .string x4, .slice x5 mx5 dx5, .slice x6 mx6 dx6] 26 (0, 0))) := hz1
  have HWZ : Hid (wz = w.alloc (.cells #[.int .i64 x0, .int .i64 x1, .int .i64 x2, .int .i64 x3, .string x4, .slice x5 mx5 dx5, .slice x6 mx6 dx6] 26)) := hwz
  have HBZ : Hid (Below w.heap.size w wz) := hbz
  have HX : Hid (Mxl w) := hx
  have HF : Hid (Par.formE t = true) := hf
  obtain ⟨dd, hdd⟩ : ∃ dd, dd = Par.deepT t := ⟨_, rfl⟩
  rw [← hdd] at hdc ⊢
  obtain ⟨r, hr⟩ : ∃ r, r = decide (dd ≤ 12) := ⟨_, rfl⟩
  rw [← hr]
  have HR : Hid (r = decide (dd ≤ 12)) := hr
  clear hr ha hbz hwz hz1 hx hf hform hd hdd
  go_enter Tryz.func19, Tryz.ntmps19
  go_wp2_with fail
  rw [← HWZ.out]
  refine hdc.mono ?_
  rintro e w2 ⟨rfl, hb2⟩
  have HB2 : Hid (Below w.heap.size w w2) := HBZ.out.trans (hb2.mono HBZ.out.size)
  have hz2 := (hb2.block _ (lt_of_block HZ1.out)).trans HZ1.out
  obtain ⟨⟨z0, z1, z2, z3, z4, z5, z6⟩, _⟩ := blkE hz2
  have lz := lt_of_block hz2
  clear hb2 hdc hz2
  by_cases h12 : dd ≤ 12
  · have d1 : decide ((dd : Int) ≤ 12) = true := by simp; omega
    have d2 : decide (dd ≤ 12) = true := by simp [h12]
    have hfx := formxC _ t (Nat.le_refl _) w2 _ _ (HTR.out w2 HB2.out) (HX.out.later HB2.out) HF.out
    have HR2 : Hid (r = true) := by show _ = _; rw [HR.out, d2]
    clear h12 d2 HR
    go_wp2_with fail
    refine hfx.mono ?_
    rintro e w3 ⟨rfl, hb3⟩
    have HB3 : Hid (Below w.heap.size w w3) := HB2.out.trans (hb3.mono HB2.out.size)
    clear hb3 hfx
    go_wp2
    go_ret
    exact ⟨by rw [HR2.out]; rfl, HB3.out⟩
  · have d1 : decide ((dd : Int) ≤ 12) = false := by simp; omega
    have d2 : decide (dd ≤ 12) = false := by simp; omega
    have HR2 : Hid (r = false) := by show _ = _; rw [HR.out, d2]
    clear h12 d2 HR
    go_wp2
    go_ret
    exact ⟨by rw [HR2.out]; rfl, HB2.out⟩
end Go.Proofs.YtcdeicfegfedfaaGreatDoor
