/- The document's SameLabel, of two labels that are the same, as they lie in trees. The document's SameExpr and SameSpots, of two trees that are the same. The document's SameSpots, of two trees that are the same. -/
import Derived.Test.YtcdeicfegfedfaaGreatDoorGaFmA
import Derived.BigQuiet
import Derived.Shelf.Abstract
import Derived.Test.YtcdeicfegfedfaaGreatDoorFmB
import Derived.Test.YtcdeicfegfedfaaGreatDoorGaFrm
import Derived.Test.YtcdeicfegfedfaaGreatDoorGaDcG
import Derived.Deep.RegionHeld3
namespace Go.Proofs.YtcdeicfegfedfaaGreatDoor
open Go.RowKit
open Par (Tr Po ba)

set_option maxHeartbeats 1000000 in
theorem eqStrM (ao bo : Option Addr) (b off b' off' n c d : Nat) (ls : List ByteArray) (w : World) (hn : n = ls.length) (hm : n ≤ maxLen) (h1 : Strs w ao b off ls) (h2 : Strs w bo b' off' ls) :
    Calls Tryz.prog 26 #[.slice ao n c, .slice bo n d] w fun e w' => e = .returned (.bool true) ∧ Below w.heap.size w w' := by
  have HL : Hid (n = ls.length) := hn
  unfold maxLen at hm
  clear hn
  go_enter Tryz.func26, Tryz.ntmps26
  go_wp2
  go_loopw [13] (fun i wr => ∃ k : Nat, k ≤ n ∧ i = .int .i64 k ∧ ∃ m, wr = w.drewN m) (fun i _ => n - (intOf i).toNat)
  case atStart => exact ⟨0, Nat.zero_le _, rfl, 0, rfl⟩
  case round =>
    obtain ⟨k, hk, rfl, m, rfl⟩ := hrel
    by_cases hlt : k < n
    · have hl0 := HL.out
      have hkl : k < ls.length := by omega
      have e1 := h1.adr (by omega)
      have e2 := h2.adr (by omega)
      have f1 := h1.cell k hkl
      have f2 := h2.cell k hkl
      obtain ⟨x, hx⟩ : ∃ x, x = ls[k] := ⟨_, rfl⟩
      rw [← hx] at f1 f2
      subst e1 e2
      clear hl0 hx
      go_wp2
      go_quiet (fail)
      go_wp2
      go_roundw
      case rel => exact ⟨k + 1, by omega, by go_num, m + nq, by simp⟩
      case measure => simp [intOf]; omega
    · go_wp2
      go_ret
      exact ⟨rfl, ⟨rfl, rfl, rfl, Nat.le_refl _, fun _ _ => rfl⟩⟩

set_option maxRecDepth 100000 in
set_option maxHeartbeats 2000000 in
theorem same1M (p : Pol) (u v : Value) (w : World) (hu : ReadersAt w u p.2) (hv : ReadersAt w v p.2) (h6 : p.2.length ≤ maxLen) :
    Calls Tryz.prog 25 #[.agg #[.string p.1, u], .agg #[.string p.1, v]] w fun e w' => e = .returned (.bool true) ∧ Below w.heap.size w w' := by
  obtain ⟨o, rs⟩ := p
  obtain ⟨ro, rb, roff, rc, hu1, _, _, hu4⟩ := hu
  obtain ⟨ro', rb', roff', rc', hv1, _, _, hv4⟩ := hv
  subst hu1 hv1
  simp only at hu4 hv4 h6 ⊢
  obtain ⟨n, hn⟩ : ∃ n, n = rs.length := ⟨_, rfl⟩
  rw [← hn]
  obtain ⟨wz, hwz⟩ : ∃ wz, wz = (w.alloc (.cells #[.string o, .slice ro n rc] 56)).alloc (.cells #[.string o, .slice ro' n rc'] 56) := ⟨_, rfl⟩
  have hbz : Below w.heap.size w wz := by rw [hwz]; exact ((Below.refl _ _).alloc (Nat.le_refl _) _).alloc (by simp) _
  have hcall := eqStrM ro ro' rb roff rb' roff' n rc rc' rs wz hn (by omega) (hu4.later hbz) (hv4.later hbz)
  have HBZ : Hid (Below w.heap.size w wz) := hbz
  have HWZ : Hid (wz = (w.alloc (.cells #[.string o, .slice ro n rc] 56)).alloc (.cells #[.string o, .slice ro' n rc'] 56)) := hwz
  clear hn hu4 hv4 h6 hbz hwz
  go_enter Tryz.func25, Tryz.ntmps25
  go_wp2_with fail
  rw [← HWZ.out]
  refine hcall.mono ?_
  rintro e w1 ⟨rfl, hb1⟩
  go_wp2
  go_ret
  exact ⟨rfl, HBZ.out.trans (hb1.mono HBZ.out.size)⟩

set_option maxRecDepth 100000 in
set_option maxHeartbeats 2000000 in
theorem equalFuncM (ao bo : Option Addr) (b off b' off' n c d : Nat) (x : List Pol) (w : World) (hn : n = x.length) (hm : n ≤ maxLen) (h1 : Pols w ao b off x) (h2 : Pols w bo b' off' x) (h6 : ∀ p ∈ x, p.2.length ≤ maxLen) :
    Calls Tryz.prog 24 #[.slice ao n c, .slice bo n d, .func (.func 25) #[] #[]] w fun e w' => e = .returned (.bool true) ∧ Below w.heap.size w w' := by
  have HN : Hid (n = x.length) := hn
  unfold maxLen at hm
  have H1 : Hid (Pols w ao b off x) := h1
  have H2 : Hid (Pols w bo b' off' x) := h2
  have H6 : Hid (∀ p ∈ x, p.2.length ≤ maxLen) := h6
  have eg : ∀ args w, (callFunc 25 args).run Tryz.prog w = .ok (.enter 25 args) w := enters_of Tryz.func25 (by kernel_rfl) rfl
  clear hn h1 h2 h6
  go_enter Tryz.func24, Tryz.ntmps24
  go_wp2
  go_loopw [17] (fun i wr => ∃ k : Nat, k ≤ n ∧ i = .int .i64 k ∧ Hid (Below w.heap.size w wr)) (fun i _ => n - (intOf i).toNat)
  case atStart => exact ⟨0, Nat.zero_le _, rfl, Below.refl _ _⟩
  case round =>
    obtain ⟨k, hk, rfl, HB⟩ := hrel
    by_cases hlt : k < n
    · have hkl : k < x.length := by have := HN.out; omega
      have hX := H1.out.later HB.out
      have hY := H2.out.later HB.out
      have hao := hX.adr (by omega)
      have hbo := hY.adr (by omega)
      have f0 := hX.c0 k hkl
      obtain ⟨pv, f1, hv⟩ := hX.c1 k hkl
      have g0 := hY.c0 k hkl
      obtain ⟨qv, g1, hq⟩ := hY.c1 k hkl
      have hs := H6.out _ (List.getElem_mem hkl)
      obtain ⟨p, hp⟩ : ∃ p, p = x[k] := ⟨_, rfl⟩
      rw [← hp] at f0 hv g0 hq hs
      obtain ⟨ro, rc, rn, hv0⟩ : ∃ ro rc rn, pv = .slice ro rn rc := by obtain ⟨ro, _, _, rc, h, _⟩ := hv; exact ⟨ro, rc, _, h⟩
      obtain ⟨so, sc, sn, hq0⟩ : ∃ ro rc rn, qv = .slice ro rn rc := by obtain ⟨ro, _, _, rc, h, _⟩ := hq; exact ⟨ro, rc, _, h⟩
      subst hv0 hq0
      obtain ⟨wz, hwz⟩ : ∃ wz, wz = (wr.alloc (.cells #[.string p.1, .slice ro rn rc] 56)).alloc (.cells #[.string p.1, .slice so sn sc] 56) := ⟨_, rfl⟩
      have hbz : Below wr.heap.size wr wz := by rw [hwz]; exact ((Below.refl _ _).alloc (Nat.le_refl _) _).alloc (by simp) _
      have hcall := same1M p (.slice ro rn rc) (.slice so sn sc) wz (hv.later hbz) (hq.later hbz) hs
      have HBZ : Hid (Below wr.heap.size wr wz) := hbz
      have HWZ : Hid (wz = (wr.alloc (.cells #[.string p.1, .slice ro rn rc] 56)).alloc (.cells #[.string p.1, .slice so sn sc] 56)) := hwz
      have l1 : b' < wr.heap.size := hY.lt (by omega)
      clear hX hY hp hv hq hs hbz hwz
      subst hao hbo
      go_wp2_with fail
      rw [← HWZ.out]
      refine hcall.mono ?_
      rintro e w1 ⟨rfl, hb1⟩
      have HB1 : Hid (Below w.heap.size w w1) := HB.out.trans ((HBZ.out.trans (hb1.mono HBZ.out.size)).mono HB.out.size)
      clear hb1 hcall
      go_wp2
      go_roundw
      case rel => exact ⟨k + 1, by omega, by go_num, HB1⟩
      case measure => simp [intOf]; omega
    · have hkn : k = n := by omega
      go_wp2
      go_ret
      exact ⟨rfl, HB.out⟩

set_option maxRecDepth 100000 in
theorem sameLabM {w : World} {S S' : Nat → Prop} {u v : Value} {l : List Po} (hu : LabV w S u l) (hv : LabV w S' v l) :
    Calls Tryz.prog 11 #[u, v] w fun e w' => e = .returned (.bool true) ∧ Below w.heap.size w w' := by
  have h6 : ∀ p ∈ l, p.2.length ≤ maxLen := fun p hp => by
    obtain ⟨ao, b, off, c, _, _, _, hP⟩ := hu.toP
    obtain ⟨i, hi, rfl⟩ := List.mem_iff_getElem.1 hp
    obtain ⟨x, _, ro, rb, roff, rc, _, h1, h2, _⟩ := hP.pols.c1 i hi
    exact Nat.le_trans h1 h2
  obtain ⟨ao, b, off, c, rfl, h1, h2, hP⟩ := hu.toP
  obtain ⟨bo, b', off', d, rfl, h3, h4, hQ⟩ := hv.toP
  have hcall := equalFuncM ao bo b off b' off' l.length c d l w rfl (Nat.le_trans h1 h2) hP.pols hQ.pols h6
  clear hP hQ h6 hu hv
  go_enter Tryz.func11, Tryz.ntmps11
  go_wp2_with fail
  refine hcall.mono ?_
  rintro e w1 ⟨rfl, hb1⟩
  go_wp2
  go_ret
  exact ⟨rfl, hb1⟩
end Go.Proofs.YtcdeicfegfedfaaGreatDoor

namespace Go.Proofs.YtcdeicfegfedfaaGreatDoor
open Go.RowKit
open Par (Tr Po ba)

def SxC (t : Tr) : Prop := ∀ (w : World) (S S' : Nat → Prop) (ca cb : List Value), TrIs w S t ca → TrIs w S' t cb → Calls Tryz.prog 9 #[.agg ca.toArray, .agg cb.toArray] w fun e w' => e = .returned (.bool true) ∧ Below w.heap.size w w'
theorem deep_kids {k p n t : Int} {s : ByteArray} {l : List Po} {a : List Tr} {m : Nat} (h : Par.deepT (.mk k p n t s l a) ≤ m + 1) : ∀ i (hi : i < a.length), Par.deepT a[i] ≤ m := fun i hi => by
  have h1 : Par.deepL a + 1 ≤ m + 1 := h
  exact Par.deepL_le.1 (Nat.le_of_succ_le_succ h1) _ (List.getElem_mem hi)
theorem tr_open7 {w : World} {S : Nat → Prop} {t : Tr} {cs : List Value} (h : TrIs w S t cs) : ∃ (z0 z1 z2 z3 : Int) (z4 : ByteArray) (z5 : Option Addr) (m5 d5 : Nat) (z6 : Option Addr) (m6 d6 : Nat), cs = [.int .i64 z0, .int .i64 z1, .int .i64 z2, .int .i64 z3, .string z4, .slice z5 m5 d5, .slice z6 m6 d6] := by
  cases h with
  | mk hs hl hr hc hk =>
    obtain ⟨_, _, _, _, hv, _⟩ := hl.toP
    obtain ⟨_, _, _, _, hv', _⟩ := hr
    subst hv hv'
    exact ⟨_, _, _, _, _, _, _, _, _, _, _, rfl⟩
set_option maxRecDepth 100000 in
set_option maxHeartbeats 8000000 in
theorem same_step {t : Tr} (hk : ∀ i (h : i < (Par.kidsOf t).length), SxC (Par.kidsOf t)[i]) : SxC t := by
  intro w S S' ca cb ha hb
  cases ha with
  | @mk k p n ty s l a lv av css hs hl hr hcl hkk =>
  cases hb with
  | @mk _ _ _ _ _ _ _ lv' av' css' hs' hl' hr' hcl' hkk' =>
  simp only [Par.kidsOf] at hk
  obtain ⟨ao, ab, aoff, ac, rfl, har⟩ := hr
  obtain ⟨bo, bb, boff, bc, rfl, hbr⟩ := hr'
  obtain ⟨m, hm⟩ : ∃ m, m = a.length := ⟨_, rfl⟩
  have hmx : m ≤ maxLen := by rw [hm, ← hcl]; exact Nat.le_trans har.cap har.mx
  obtain ⟨lo, ln, lc, rfl⟩ : ∃ lo ln lc, lv = .slice lo ln lc := by obtain ⟨_, _, _, _, h, _⟩ := hl.toP; exact ⟨_, _, _, h⟩
  obtain ⟨lo', ln', lc', rfl⟩ : ∃ lo ln lc, lv' = .slice lo ln lc := by obtain ⟨_, _, _, _, h, _⟩ := hl'.toP; exact ⟨_, _, _, h⟩
  rw [hcl, ← hm, hcl', ← hm]
  obtain ⟨wz, hwz⟩ : ∃ wz, wz = (w.alloc (.cells #[.int .i64 k, .int .i64 p, .int .i64 n, .int .i64 ty, .string s, .slice lo ln lc, .slice ao m ac] 26)).alloc (.cells #[.int .i64 k, .int .i64 p, .int .i64 n, .int .i64 ty, .string s, .slice lo' ln' lc', .slice bo m bc] 26) := ⟨_, rfl⟩
  have HWZ : Hid (wz = (w.alloc (.cells #[.int .i64 k, .int .i64 p, .int .i64 n, .int .i64 ty, .string s, .slice lo ln lc, .slice ao m ac] 26)).alloc (.cells #[.int .i64 k, .int .i64 p, .int .i64 n, .int .i64 ty, .string s, .slice lo' ln' lc', .slice bo m bc] 26)) := hwz
  have hbz : Below w.heap.size w wz := by rw [hwz]; exact ((Below.refl _ _).alloc (Nat.le_refl _) _).alloc (by simp) _
  have HZ1 : Hid (wz.heap[w.heap.size]? = some (.cells #[.int .i64 k, .int .i64 p, .int .i64 n, .int .i64 ty, .string s, .slice lo ln lc, .slice ao m ac] 26 (0, 0))) := by
    show _ = _
    rw [hwz]
    exact heap_past_alloc (heap_at_alloc _ _ _ rfl)
  have HZ2 : Hid (wz.heap[w.heap.size + 1]? = some (.cells #[.int .i64 k, .int .i64 p, .int .i64 n, .int .i64 ty, .string s, .slice lo' ln' lc', .slice bo m bc] 26 (0, 0))) := by
    show _ = _
    rw [hwz]
    have e : (w.alloc (.cells #[.int .i64 k, .int .i64 p, .int .i64 n, .int .i64 ty, .string s, .slice lo ln lc, .slice ao m ac] 26)).heap.size = w.heap.size + 1 := by simp
    rw [← e]
    exact heap_at_alloc _ _ _ rfl
  have HBZ : Hid (Below w.heap.size w wz) := hbz
  have HK : Hid (∀ i (h : i < a.length), SxC a[i]) := hk
  have HA : Hid (RowAt w S 7 ao ab aoff css.length ac css) := har
  have HB : Hid (RowAt w S' 7 bo bb boff css'.length bc css') := hbr
  have HKA : Hid (∀ i (h : i < a.length) (h' : i < css.length), TrIs w S a[i] css[i]) := hkk
  have HKB : Hid (∀ i (h : i < a.length) (h' : i < css'.length), TrIs w S' a[i] css'[i]) := hkk'
  have HL1 : Hid (LabV w S (.slice lo ln lc) l) := hl
  have HL2 : Hid (LabV w S' (.slice lo' ln' lc') l) := hl'
  have HM : Hid (m = a.length) := hm
  have HC1 : Hid (css.length = a.length) := hcl
  have HC2 : Hid (css'.length = a.length) := hcl'
  unfold maxLen at hmx
  clear hk hkk hkk' hl hl' hm har hbr hcl hcl' hs hs' hbz hwz
  go_enter Tryz.func9, Tryz.ntmps9
  obtain ⟨⟨z0, z1, z2, z3, z4, z5, z6⟩, f0, f1, f2, f3, f4, f5, f6⟩ := blkE HZ1.out
  obtain ⟨⟨y0, y1, y2, y3, y4, y5, y6⟩, g0, g1, g2, g3, g4, g5, g6⟩ := blkE HZ2.out
  have lz1 := lt_of_block HZ1.out
  have lz2 := lt_of_block HZ2.out
  go_upto_region 1 with fail
  rw [← HWZ.out]
  go_wp2
  go_loopw [16] (fun i wr => ∃ j : Nat, j ≤ m ∧ i = .int .i64 j ∧ Hid (Below wz.heap.size wz wr)) (fun i _ => m - (intOf i).toNat)
  case atStart => exact ⟨0, Nat.zero_le _, rfl, Below.refl _ _⟩
  case round =>
    obtain ⟨j, hj, rfl, HBr⟩ := hrel
    obtain ⟨hcl, hfz⟩ := bcell HBr.out
    have lw := HBr.out.size
    have hz6 : wr.cell? ⟨w.heap.size, 6, none⟩ = some (.slice ao m ac) := (hcl _ _ lz1).trans z6
    have hy6 : wr.cell? ⟨w.heap.size + 1, 6, none⟩ = some (.slice bo m bc) := (hcl _ _ lz2).trans y6
    by_cases hlt : j < m
    · have hja : j < a.length := by have := HM.out; omega
      have hj1 : j < css.length := by rw [HC1.out]; exact hja
      have hj2 : j < css'.length := by rw [HC2.out]; exact hja
      obtain rfl := HA.out.adr (by omega)
      obtain rfl := HB.out.adr (by omega)
      have h1 := HKA.out j hja hj1
      have h2 := HKB.out j hja hj2
      have c1 := fun i u => HA.out.cell j hj1 i u
      have c2 := fun i u => HB.out.cell j hj2 i u
      have la := HA.out.lt (by omega)
      have lb := HB.out.lt (by omega)
      have hcall := HK.out j hja
      obtain ⟨x0, x1, x2, x3, x4, x5, mx5, dx5, x6, mx6, dx6, hx⟩ := tr_open7 h1
      obtain ⟨v0, v1, v2, v3, v4, v5, nv5, ev5, v6, nv6, ev6, hv⟩ := tr_open7 h2
      rw [hx] at h1 c1
      rw [hv] at h2 c2
      have HCE : Hid (∀ w', Below wr.heap.size wr w' → w'.cell? ⟨w.heap.size, 6, none⟩ = some (.slice (some ⟨ab, aoff, none⟩) m ac) ∧ w'.cell? ⟨w.heap.size + 1, 6, none⟩ = some (.slice (some ⟨bb, boff, none⟩) m bc) ∧ w'.cell? ⟨ab, aoff + j * 7, none⟩ = some (.int .i64 x0) ∧ w'.cell? ⟨ab, aoff + j * 7 + 1, none⟩ = some (.int .i64 x1) ∧ w'.cell? ⟨ab, aoff + j * 7 + 2, none⟩ = some (.int .i64 x2) ∧ w'.cell? ⟨ab, aoff + j * 7 + 3, none⟩ = some (.int .i64 x3) ∧ w'.cell? ⟨ab, aoff + j * 7 + 4, none⟩ = some (.string x4) ∧ w'.cell? ⟨ab, aoff + j * 7 + 5, none⟩ = some (.slice x5 mx5 dx5) ∧ w'.cell? ⟨ab, aoff + j * 7 + 6, none⟩ = some (.slice x6 mx6 dx6) ∧ w'.cell? ⟨bb, boff + j * 7, none⟩ = some (.int .i64 v0) ∧ w'.cell? ⟨bb, boff + j * 7 + 1, none⟩ = some (.int .i64 v1) ∧ w'.cell? ⟨bb, boff + j * 7 + 2, none⟩ = some (.int .i64 v2) ∧ w'.cell? ⟨bb, boff + j * 7 + 3, none⟩ = some (.int .i64 v3) ∧ w'.cell? ⟨bb, boff + j * 7 + 4, none⟩ = some (.string v4) ∧ w'.cell? ⟨bb, boff + j * 7 + 5, none⟩ = some (.slice v5 nv5 ev5) ∧ w'.cell? ⟨bb, boff + j * 7 + 6, none⟩ = some (.slice v6 nv6 ev6)) := fun w' hb' => by
        obtain ⟨hc2, _⟩ := bcell (HBr.out.trans (hb'.mono lw))
        obtain ⟨hc3, _⟩ := bcell (HBZ.out.trans ((HBr.out.trans (hb'.mono lw)).mono HBZ.out.size))
        exact ⟨(hc2 _ _ lz1).trans z6, (hc2 _ _ lz2).trans y6, (hc3 _ _ la).trans (c1 0 _ rfl), (hc3 _ _ la).trans (c1 1 _ rfl), (hc3 _ _ la).trans (c1 2 _ rfl), (hc3 _ _ la).trans (c1 3 _ rfl), (hc3 _ _ la).trans (c1 4 _ rfl), (hc3 _ _ la).trans (c1 5 _ rfl), (hc3 _ _ la).trans (c1 6 _ rfl), (hc3 _ _ lb).trans (c2 0 _ rfl), (hc3 _ _ lb).trans (c2 1 _ rfl), (hc3 _ _ lb).trans (c2 2 _ rfl), (hc3 _ _ lb).trans (c2 3 _ rfl), (hc3 _ _ lb).trans (c2 4 _ rfl), (hc3 _ _ lb).trans (c2 5 _ rfl), (hc3 _ _ lb).trans (c2 6 _ rfl)⟩
      have HCL : Hid (∀ w', Below wr.heap.size wr w' → Calls Tryz.prog 9 #[.agg #[.int .i64 x0, .int .i64 x1, .int .i64 x2, .int .i64 x3, .string x4, .slice x5 mx5 dx5, .slice x6 mx6 dx6], .agg #[.int .i64 v0, .int .i64 v1, .int .i64 v2, .int .i64 v3, .string v4, .slice v5 nv5 ev5, .slice v6 nv6 ev6]] w' fun e w'' => e = .returned (.bool true) ∧ Below wr.heap.size wr w'') := fun w' hb' => by
        have hb2 := HBZ.out.trans ((HBr.out.trans (hb'.mono lw)).mono HBZ.out.size)
        refine (hcall w' (fun b => S b ∧ b < w.heap.size) (fun b => S' b ∧ b < w.heap.size) _ _ (TrIs.keeps (h1.mono fun b hb hl => ⟨hb, hl⟩) ⟨hb2.size, fun b hb _ => hb2.block b hb.2⟩) (TrIs.keeps (h2.mono fun b hb hl => ⟨hb, hl⟩) ⟨hb2.size, fun b hb _ => hb2.block b hb.2⟩)).mono ?_
        rintro e w2 ⟨rfl, hb3⟩
        exact ⟨rfl, hb'.trans (hb3.mono hb'.size)⟩
      clear hcall h1 h2 c1 c2 hx hv hz6 hy6 hcl hfz
      go_upto_region 6 with fail
      go_cut [30] (fun s30 wc => s30 = .bool false ∧ Hid (Below wr.heap.size wr wc))
      case first =>
        have hbq : Below wr.heap.size wr wr.drew := ⟨rfl, rfl, rfl, Nat.le_refl _, fun _ _ => rfl⟩
        have hclS := HCL.out
        go_region_held3 (fun w' => w'.cell? ⟨w.heap.size, 6, none⟩ = some (.slice (some ⟨ab, aoff, none⟩) m ac) ∧ w'.cell? ⟨w.heap.size + 1, 6, none⟩ = some (.slice (some ⟨bb, boff, none⟩) m bc) ∧ w'.cell? ⟨ab, aoff + j * 7, none⟩ = some (.int .i64 x0) ∧ w'.cell? ⟨ab, aoff + j * 7 + 1, none⟩ = some (.int .i64 x1) ∧ w'.cell? ⟨ab, aoff + j * 7 + 2, none⟩ = some (.int .i64 x2) ∧ w'.cell? ⟨ab, aoff + j * 7 + 3, none⟩ = some (.int .i64 x3) ∧ w'.cell? ⟨ab, aoff + j * 7 + 4, none⟩ = some (.string x4) ∧ w'.cell? ⟨ab, aoff + j * 7 + 5, none⟩ = some (.slice x5 mx5 dx5) ∧ w'.cell? ⟨ab, aoff + j * 7 + 6, none⟩ = some (.slice x6 mx6 dx6) ∧ w'.cell? ⟨bb, boff + j * 7, none⟩ = some (.int .i64 v0) ∧ w'.cell? ⟨bb, boff + j * 7 + 1, none⟩ = some (.int .i64 v1) ∧ w'.cell? ⟨bb, boff + j * 7 + 2, none⟩ = some (.int .i64 v2) ∧ w'.cell? ⟨bb, boff + j * 7 + 3, none⟩ = some (.int .i64 v3) ∧ w'.cell? ⟨bb, boff + j * 7 + 4, none⟩ = some (.string v4) ∧ w'.cell? ⟨bb, boff + j * 7 + 5, none⟩ = some (.slice v5 nv5 ev5) ∧ w'.cell? ⟨bb, boff + j * 7 + 6, none⟩ = some (.slice v6 nv6 ev6)) (exact HCE.out _ (by assumption)) ((go_at_call 9; refine (hclS _ (by assumption)).mono ?_; rintro e w2 ⟨rfl, hb2⟩))
        go_wp2_with fail
        go_meet
        exact ⟨rfl, by assumption⟩
      case rest =>
        obtain ⟨rfl, HBc⟩ := hcut
        have HBn : Hid (Below wz.heap.size wz wc) := HBr.out.trans (HBc.out.mono lw)
        go_wp2
        go_roundw
        case rel => exact ⟨j + 1, by omega, by go_num, HBn⟩
        case measure => simp [intOf]; omega
    · obtain rfl : j = m := by omega
      have r0 : wr.cell? ⟨w.heap.size, 0, none⟩ = some (.int .i64 k) := (hcl _ _ lz1).trans z0
      have t0 : wr.cell? ⟨w.heap.size + 1, 0, none⟩ = some (.int .i64 k) := (hcl _ _ lz2).trans y0
      have r1 : wr.cell? ⟨w.heap.size, 1, none⟩ = some (.int .i64 p) := (hcl _ _ lz1).trans z1
      have t1 : wr.cell? ⟨w.heap.size + 1, 1, none⟩ = some (.int .i64 p) := (hcl _ _ lz2).trans y1
      have r2 : wr.cell? ⟨w.heap.size, 2, none⟩ = some (.int .i64 n) := (hcl _ _ lz1).trans z2
      have t2 : wr.cell? ⟨w.heap.size + 1, 2, none⟩ = some (.int .i64 n) := (hcl _ _ lz2).trans y2
      have r3 : wr.cell? ⟨w.heap.size, 3, none⟩ = some (.int .i64 ty) := (hcl _ _ lz1).trans z3
      have t3 : wr.cell? ⟨w.heap.size + 1, 3, none⟩ = some (.int .i64 ty) := (hcl _ _ lz2).trans y3
      have r4 : wr.cell? ⟨w.heap.size, 4, none⟩ = some (.string s) := (hcl _ _ lz1).trans z4
      have t4 : wr.cell? ⟨w.heap.size + 1, 4, none⟩ = some (.string s) := (hcl _ _ lz2).trans y4
      have r5 : wr.cell? ⟨w.heap.size, 5, none⟩ = some (.slice lo ln lc) := (hcl _ _ lz1).trans z5
      have t5 : wr.cell? ⟨w.heap.size + 1, 5, none⟩ = some (.slice lo' ln' lc') := (hcl _ _ lz2).trans y5
      have rf : wr.frozen? ⟨w.heap.size, 6, none⟩ = false := (hfz _ _ lz1).trans f6
      have tf : wr.frozen? ⟨w.heap.size + 1, 6, none⟩ = false := (hfz _ _ lz2).trans g6
      have l1 : w.heap.size < wr.heap.size := by omega
      have l2 : w.heap.size + 1 < wr.heap.size := by omega
      obtain ⟨we, hwe⟩ : ∃ we, we = (wr.setCell ⟨w.heap.size, 6, none⟩ (.slice none 0 0)).setCell ⟨w.heap.size + 1, 6, none⟩ (.slice none 0 0) := ⟨_, rfl⟩
      have hbe : Below w.heap.size w we := by
        rw [hwe]
        exact ((HBZ.out.trans (HBr.out.mono HBZ.out.size)).setCell (by show w.heap.size ≤ w.heap.size; omega) _).setCell (by show w.heap.size ≤ w.heap.size + 1; omega) _
      have HWE : Hid (we = (wr.setCell ⟨w.heap.size, 6, none⟩ (.slice none 0 0)).setCell ⟨w.heap.size + 1, 6, none⟩ (.slice none 0 0)) := hwe
      have HBE : Hid (Below w.heap.size w we) := hbe
      have hlab := sameLabM (S := fun b => S b ∧ b < w.heap.size) (S' := fun b => S' b ∧ b < w.heap.size) ((HL1.out.mono fun b hb hl => ⟨hb, hl⟩).keeps ⟨hbe.size, fun b hb _ => hbe.block b hb.2⟩) ((HL2.out.mono fun b hb hl => ⟨hb, hl⟩).keeps ⟨hbe.size, fun b hb _ => hbe.block b hb.2⟩)
      clear hcl hfz hwe hbe z0 z1 z2 z3 z4 z5 z6 y0 y1 y2 y3 y4 y5 y6 f0 f1 f2 f3 f4 f5 f6 g0 g1 g2 g3 g4 g5 g6
      go_wp2_with fail
      rw [← HWE.out]
      refine hlab.mono ?_
      rintro e w2 ⟨rfl, hb2⟩
      go_wp2
      go_ret
      exact ⟨rfl, HBE.out.trans (hb2.mono HBE.out.size)⟩
theorem sameT : ∀ (m : Nat) (t : Tr), Par.deepT t ≤ m → SxC t := by
  intro m
  induction m with
  | zero => intro t h; have := Par.deep_pos t; omega
  | succ m ih =>
    intro t h
    obtain ⟨k, p, n, ty, s, l, a⟩ := t
    exact same_step fun i hi => ih _ (deep_kids h i hi)
theorem sameExprC {w : World} {S S' : Nat → Prop} {t : Tr} {ca cb : List Value} (ha : TrIs w S t ca) (hb : TrIs w S' t cb) : Calls Tryz.prog 9 #[.agg ca.toArray, .agg cb.toArray] w fun e w' => e = .returned (.bool true) ∧ Below w.heap.size w w' := sameT _ t (Nat.le_refl _) w S S' ca cb ha hb
end Go.Proofs.YtcdeicfegfedfaaGreatDoor

namespace Go.Proofs.YtcdeicfegfedfaaGreatDoor
open Go.RowKit
open Par (Tr Po ba)

theorem row_mono {w : World} {S S' : Nat → Prop} {sz : Nat} {ao : Option Addr} {b off n c : Nat} {css : List (List Value)} (h : RowAt w S sz ao b off n c css) (k : ∀ b, S b → b < w.heap.size → S' b) : RowAt w S' sz ao b off n c css :=
  ⟨h.ln, h.cap, h.mx, h.adr, fun hp => k b (h.ok hp) (h.lt hp), h.pl, h.szs, h.cell⟩
def SpC (t : Tr) : Prop := ∀ (w : World) (S S' : Nat → Prop) (ca cb : List Value), TrIs w S t ca → TrIs w S' t cb → Calls Tryz.prog 23 #[.agg ca.toArray, .agg cb.toArray] w fun e w' => e = .returned (.bool true) ∧ Below w.heap.size w w'
set_option maxRecDepth 100000 in
set_option maxHeartbeats 4000000 in
theorem eqFuncE {w : World} {S S' : Nat → Prop} {a : List Tr} {ao bo : Option Addr} {ab aoff ac bb boff bc m : Nat} {css css' : List (List Value)} (hk : ∀ i (h : i < a.length), SpC a[i]) (hm : m = a.length) (hA : RowAt w S 7 ao ab aoff css.length ac css) (hB : RowAt w S' 7 bo bb boff css'.length bc css') (hc1 : css.length = a.length) (hc2 : css'.length = a.length) (hKA : ∀ i (h : i < a.length) (h' : i < css.length), TrIs w S a[i] css[i]) (hKB : ∀ i (h : i < a.length) (h' : i < css'.length), TrIs w S' a[i] css'[i]) :
    Calls Tryz.prog 49 #[.slice ao m ac, .slice bo m bc, .func (.func 23) #[] #[]] w fun e w' => e = .returned (.bool true) ∧ Below w.heap.size w w' := by
  have hmx : m ≤ maxLen := by rw [hm, ← hc1]; exact Nat.le_trans hA.cap hA.mx
  have HK : Hid (∀ i (h : i < a.length), SpC a[i]) := hk
  have HA : Hid (RowAt w S 7 ao ab aoff css.length ac css) := hA
  have HB : Hid (RowAt w S' 7 bo bb boff css'.length bc css') := hB
  have HKA : Hid (∀ i (h : i < a.length) (h' : i < css.length), TrIs w S a[i] css[i]) := hKA
  have HKB : Hid (∀ i (h : i < a.length) (h' : i < css'.length), TrIs w S' a[i] css'[i]) := hKB
  have HM : Hid (m = a.length) := hm
  have HC1 : Hid (css.length = a.length) := hc1
  have HC2 : Hid (css'.length = a.length) := hc2
  have eg : ∀ args w, (callFunc 23 args).run Tryz.prog w = .ok (.enter 23 args) w := enters_of Tryz.func23 (by kernel_rfl) rfl
  unfold maxLen at hmx
  clear hk hm hA hB hc1 hc2 hKA hKB
  go_enter Tryz.func49, Tryz.ntmps49
  go_wp2
  go_loopw [17] (fun i wr => ∃ j : Nat, j ≤ m ∧ i = .int .i64 j ∧ Hid (Below w.heap.size w wr)) (fun i _ => m - (intOf i).toNat)
  case atStart => exact ⟨0, Nat.zero_le _, rfl, Below.refl _ _⟩
  case round =>
    obtain ⟨j, hj, rfl, HBr⟩ := hrel
    by_cases hlt : j < m
    · have hja : j < a.length := by have := HM.out; omega
      have hj1 : j < css.length := by rw [HC1.out]; exact hja
      have hj2 : j < css'.length := by rw [HC2.out]; exact hja
      obtain rfl := HA.out.adr (by omega)
      obtain rfl := HB.out.adr (by omega)
      have h1 := HKA.out j hja hj1
      have h2 := HKB.out j hja hj2
      have c1 := fun i u => HA.out.cell j hj1 i u
      have c2 := fun i u => HB.out.cell j hj2 i u
      have la := HA.out.lt (by omega)
      have lb := HB.out.lt (by omega)
      have hcall := HK.out j hja
      obtain ⟨x0, x1, x2, x3, x4, x5, mx5, dx5, x6, mx6, dx6, hx⟩ := tr_open7 h1
      obtain ⟨v0, v1, v2, v3, v4, v5, nv5, ev5, v6, nv6, ev6, hv⟩ := tr_open7 h2
      rw [hx] at h1 c1
      rw [hv] at h2 c2
      obtain ⟨hcl, _⟩ := bcell HBr.out
      have lw := HBr.out.size
      have p0 : wr.cell? ⟨ab, aoff + j * 7, none⟩ = some (.int .i64 x0) := (hcl _ _ la).trans (c1 0 _ rfl)
      have q0 : wr.cell? ⟨bb, boff + j * 7, none⟩ = some (.int .i64 v0) := (hcl _ _ lb).trans (c2 0 _ rfl)
      have p1 : wr.cell? ⟨ab, aoff + j * 7 + 1, none⟩ = some (.int .i64 x1) := (hcl _ _ la).trans (c1 1 _ rfl)
      have q1 : wr.cell? ⟨bb, boff + j * 7 + 1, none⟩ = some (.int .i64 v1) := (hcl _ _ lb).trans (c2 1 _ rfl)
      have p2 : wr.cell? ⟨ab, aoff + j * 7 + 2, none⟩ = some (.int .i64 x2) := (hcl _ _ la).trans (c1 2 _ rfl)
      have q2 : wr.cell? ⟨bb, boff + j * 7 + 2, none⟩ = some (.int .i64 v2) := (hcl _ _ lb).trans (c2 2 _ rfl)
      have p3 : wr.cell? ⟨ab, aoff + j * 7 + 3, none⟩ = some (.int .i64 x3) := (hcl _ _ la).trans (c1 3 _ rfl)
      have q3 : wr.cell? ⟨bb, boff + j * 7 + 3, none⟩ = some (.int .i64 v3) := (hcl _ _ lb).trans (c2 3 _ rfl)
      have p4 : wr.cell? ⟨ab, aoff + j * 7 + 4, none⟩ = some (.string x4) := (hcl _ _ la).trans (c1 4 _ rfl)
      have q4 : wr.cell? ⟨bb, boff + j * 7 + 4, none⟩ = some (.string v4) := (hcl _ _ lb).trans (c2 4 _ rfl)
      have p5 : wr.cell? ⟨ab, aoff + j * 7 + 5, none⟩ = some (.slice x5 mx5 dx5) := (hcl _ _ la).trans (c1 5 _ rfl)
      have q5 : wr.cell? ⟨bb, boff + j * 7 + 5, none⟩ = some (.slice v5 nv5 ev5) := (hcl _ _ lb).trans (c2 5 _ rfl)
      have p6 : wr.cell? ⟨ab, aoff + j * 7 + 6, none⟩ = some (.slice x6 mx6 dx6) := (hcl _ _ la).trans (c1 6 _ rfl)
      have q6 : wr.cell? ⟨bb, boff + j * 7 + 6, none⟩ = some (.slice v6 nv6 ev6) := (hcl _ _ lb).trans (c2 6 _ rfl)
      obtain ⟨wz, hwz⟩ : ∃ wz, wz = (wr.alloc (.cells #[.int .i64 x0, .int .i64 x1, .int .i64 x2, .int .i64 x3, .string x4, .slice x5 mx5 dx5, .slice x6 mx6 dx6] 26)).alloc (.cells #[.int .i64 v0, .int .i64 v1, .int .i64 v2, .int .i64 v3, .string v4, .slice v5 nv5 ev5, .slice v6 nv6 ev6] 26) := ⟨_, rfl⟩
      have hbz : Below wr.heap.size wr wz := by rw [hwz]; exact ((Below.refl _ _).alloc (Nat.le_refl _) _).alloc (by simp) _
      have hb2 : Below w.heap.size w wz := HBr.out.trans (hbz.mono lw)
      have hcl2 := hcall wz (fun b => S b ∧ b < w.heap.size) (fun b => S' b ∧ b < w.heap.size) _ _ (TrIs.keeps (h1.mono fun b hb hl => ⟨hb, hl⟩) ⟨hb2.size, fun b hb _ => hb2.block b hb.2⟩) (TrIs.keeps (h2.mono fun b hb hl => ⟨hb, hl⟩) ⟨hb2.size, fun b hb _ => hb2.block b hb.2⟩)
      have HB2 : Hid (Below w.heap.size w wz) := hb2
      have HWZ : Hid (wz = (wr.alloc (.cells #[.int .i64 x0, .int .i64 x1, .int .i64 x2, .int .i64 x3, .string x4, .slice x5 mx5 dx5, .slice x6 mx6 dx6] 26)).alloc (.cells #[.int .i64 v0, .int .i64 v1, .int .i64 v2, .int .i64 v3, .string v4, .slice v5 nv5 ev5, .slice v6 nv6 ev6] 26)) := hwz
      have lr : ab < wr.heap.size := by omega
      have lr2 : bb < wr.heap.size := by omega
      clear hcall h1 h2 c1 c2 hx hv hcl hbz hb2 hwz
      go_wp2_with fail
      rw [← HWZ.out]
      refine hcl2.mono ?_
      rintro e w2 ⟨rfl, hb3⟩
      have HBn : Hid (Below w.heap.size w w2) := HB2.out.trans (hb3.mono HB2.out.size)
      clear hb3 hcl2
      go_wp2
      go_roundw
      case rel => exact ⟨j + 1, by omega, by go_num, HBn⟩
      case measure => simp [intOf]; omega
    · obtain rfl : j = m := by omega
      go_wp2
      go_ret
      exact ⟨rfl, HBr.out⟩
set_option maxRecDepth 100000 in
set_option maxHeartbeats 4000000 in
theorem spot_step {t : Tr} (hk : ∀ i (h : i < (Par.kidsOf t).length), SpC (Par.kidsOf t)[i]) : SpC t := by
  intro w S S' ca cb ha hb
  cases ha with
  | @mk k p n ty s l a lv av css hs hl hr hcl hkk =>
  cases hb with
  | @mk _ _ _ _ _ _ _ lv' av' css' hs' hl' hr' hcl' hkk' =>
  simp only [Par.kidsOf] at hk
  obtain ⟨ao, ab, aoff, ac, rfl, har⟩ := hr
  obtain ⟨bo, bb, boff, bc, rfl, hbr⟩ := hr'
  obtain ⟨m, hm⟩ : ∃ m, m = a.length := ⟨_, rfl⟩
  obtain ⟨lo, ln, lc, rfl⟩ : ∃ lo ln lc, lv = .slice lo ln lc := by obtain ⟨_, _, _, _, h, _⟩ := hl.toP; exact ⟨_, _, _, h⟩
  obtain ⟨lo', ln', lc', rfl⟩ : ∃ lo ln lc, lv' = .slice lo ln lc := by obtain ⟨_, _, _, _, h, _⟩ := hl'.toP; exact ⟨_, _, _, h⟩
  obtain ⟨wz, hwz⟩ : ∃ wz, wz = (w.alloc (.cells #[.int .i64 k, .int .i64 p, .int .i64 n, .int .i64 ty, .string s, .slice lo ln lc, .slice ao m ac] 26)).alloc (.cells #[.int .i64 k, .int .i64 p, .int .i64 n, .int .i64 ty, .string s, .slice lo' ln' lc', .slice bo m bc] 26) := ⟨_, rfl⟩
  have hbz : Below w.heap.size w wz := by rw [hwz]; exact ((Below.refl _ _).alloc (Nat.le_refl _) _).alloc (by simp) _
  have hcall := eqFuncE (w := wz) (S := fun b => S b ∧ b < w.heap.size) (S' := fun b => S' b ∧ b < w.heap.size) hk hm ((row_mono har fun b hb hl => ⟨hb, hl⟩).keeps ⟨hbz.size, fun b hb _ => hbz.block b hb.2⟩) ((row_mono hbr fun b hb hl => ⟨hb, hl⟩).keeps ⟨hbz.size, fun b hb _ => hbz.block b hb.2⟩) hcl hcl' (fun i h h' => TrIs.keeps ((hkk i h h').mono fun b hb hl => ⟨hb, hl⟩) ⟨hbz.size, fun b hb _ => hbz.block b hb.2⟩) (fun i h h' => TrIs.keeps ((hkk' i h h').mono fun b hb hl => ⟨hb, hl⟩) ⟨hbz.size, fun b hb _ => hbz.block b hb.2⟩)
  rw [hcl, ← hm, hcl', ← hm]
  have HWZ : Hid (wz = (w.alloc (.cells #[.int .i64 k, .int .i64 p, .int .i64 n, .int .i64 ty, .string s, .slice lo ln lc, .slice ao m ac] 26)).alloc (.cells #[.int .i64 k, .int .i64 p, .int .i64 n, .int .i64 ty, .string s, .slice lo' ln' lc', .slice bo m bc] 26)) := hwz
  have HBZ : Hid (Below w.heap.size w wz) := hbz
  clear hk hkk hkk' hl hl' hm har hbr hcl hcl' hs hs' hbz hwz
  go_enter Tryz.func23, Tryz.ntmps23
  go_wp2_with fail
  rw [← HWZ.out]
  refine hcall.mono ?_
  rintro e w2 ⟨rfl, hb2⟩
  go_wp2
  go_ret
  exact ⟨rfl, HBZ.out.trans (hb2.mono HBZ.out.size)⟩
theorem spotT : ∀ (m : Nat) (t : Tr), Par.deepT t ≤ m → SpC t := by
  intro m
  induction m with
  | zero => intro t h; have := Par.deep_pos t; omega
  | succ m ih =>
    intro t h
    obtain ⟨k, p, n, ty, s, l, a⟩ := t
    exact spot_step fun i hi => ih _ (deep_kids h i hi)
set_option maxRecDepth 100000 in
set_option maxHeartbeats 4000000 in
theorem sameSpotsC {w : World} {S S' : Nat → Prop} {t : Tr} {ca cb : List Value} (ha : TrIs w S t ca) (hb : TrIs w S' t cb) : Calls Tryz.prog 10 #[.agg ca.toArray, .agg cb.toArray] w fun e w' => e = .returned (.bool true) ∧ Below w.heap.size w w' := by
  obtain ⟨x0, x1, x2, x3, x4, x5, mx5, dx5, x6, mx6, dx6, rfl⟩ := tr_open7 ha
  obtain ⟨v0, v1, v2, v3, v4, v5, nv5, ev5, v6, nv6, ev6, rfl⟩ := tr_open7 hb
  obtain ⟨wz, hwz⟩ : ∃ wz, wz = (w.alloc (.cells #[.int .i64 x0, .int .i64 x1, .int .i64 x2, .int .i64 x3, .string x4, .slice x5 mx5 dx5, .slice x6 mx6 dx6] 26)).alloc (.cells #[.int .i64 v0, .int .i64 v1, .int .i64 v2, .int .i64 v3, .string v4, .slice v5 nv5 ev5, .slice v6 nv6 ev6] 26) := ⟨_, rfl⟩
  have hbz : Below w.heap.size w wz := by rw [hwz]; exact ((Below.refl _ _).alloc (Nat.le_refl _) _).alloc (by simp) _
  have hcall := spotT _ t (Nat.le_refl _) wz (fun b => S b ∧ b < w.heap.size) (fun b => S' b ∧ b < w.heap.size) _ _ (TrIs.keeps (ha.mono fun b hb hl => ⟨hb, hl⟩) ⟨hbz.size, fun b hb _ => hbz.block b hb.2⟩) (TrIs.keeps (hb.mono fun b hb hl => ⟨hb, hl⟩) ⟨hbz.size, fun b hb _ => hbz.block b hb.2⟩)
  have HWZ : Hid (wz = (w.alloc (.cells #[.int .i64 x0, .int .i64 x1, .int .i64 x2, .int .i64 x3, .string x4, .slice x5 mx5 dx5, .slice x6 mx6 dx6] 26)).alloc (.cells #[.int .i64 v0, .int .i64 v1, .int .i64 v2, .int .i64 v3, .string v4, .slice v5 nv5 ev5, .slice v6 nv6 ev6] 26)) := hwz
  have HBZ : Hid (Below w.heap.size w wz) := hbz
  clear ha hb hbz hwz
  go_enter Tryz.func10, Tryz.ntmps10
  go_wp2_with fail
  rw [← HWZ.out]
  refine hcall.mono ?_
  rintro e w2 ⟨rfl, hb2⟩
  go_wp2
  go_ret
  exact ⟨rfl, HBZ.out.trans (hb2.mono HBZ.out.size)⟩
end Go.Proofs.YtcdeicfegfedfaaGreatDoor
