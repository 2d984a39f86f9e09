/- slices.Compare at rows of strings, cmp.Or at two numbers, label.compare. -/
import Derived.Test.YtnligpcfkmdjeaaGreatDoorGaOrd
import Derived.Test.YtnligpcfkmdjeaaGreatDoorGaFn
import Derived.Sort.Grow
import Derived.Deep.RegionHeld3
namespace Go.Proofs.YtnligpcfkmdjeaaGreatDoor
open Go.RowKit Go.Sort

theorem cmpR_step {l m : List ByteArray} {k : Nat} (h1 : k < l.length) (h2 : k < m.length) (h : cmpS l[k] m[k] = 0) : cmpR (l.drop k) (m.drop k) = cmpR (l.drop (k + 1)) (m.drop (k + 1)) := by
  rw [List.drop_eq_getElem_cons h1, List.drop_eq_getElem_cons h2]
  unfold cmpR
  rw [List.map_cons, List.map_cons, cmp_cons, if_neg (by rw [show cmpI l[k].data.toList m[k].data.toList = 0 from h]; simp)]
theorem cmpR_hit {l m : List ByteArray} {k : Nat} (h1 : k < l.length) (h2 : k < m.length) (h : cmpS l[k] m[k] ≠ 0) : cmpR (l.drop k) (m.drop k) = cmpS l[k] m[k] := by
  rw [List.drop_eq_getElem_cons h1, List.drop_eq_getElem_cons h2]
  unfold cmpR
  rw [List.map_cons, List.map_cons, cmp_cons, if_pos (show cmpI l[k].data.toList m[k].data.toList ≠ 0 from h)]
  rfl
theorem cmpR_more {l m : List ByteArray} {k : Nat} (h1 : k < l.length) (h2 : m.length ≤ k) : cmpR (l.drop k) (m.drop k) = 1 := by
  rw [List.drop_eq_getElem_cons h1, List.drop_of_length_le h2]
  unfold cmpR cmpI
  rw [List.map_cons, List.map_nil, if_neg (List.not_lt_nil _), if_pos (List.nil_lt_cons _ _)]
theorem cmpR_less {l m : List ByteArray} {k : Nat} (h1 : l.length ≤ k) (h2 : k < m.length) : cmpR (l.drop k) (m.drop k) = -1 := by
  rw [List.drop_eq_getElem_cons h2, List.drop_of_length_le h1]
  unfold cmpR cmpI
  rw [List.map_cons, List.map_nil, if_pos (List.nil_lt_cons _ _)]
theorem cmpR_same {l m : List ByteArray} {k : Nat} (h1 : l.length ≤ k) (h2 : m.length ≤ k) : cmpR (l.drop k) (m.drop k) = 0 := by
  rw [List.drop_of_length_le h2, List.drop_of_length_le h1]
  unfold cmpR cmpI
  rw [List.map_nil, if_neg (List.not_lt_nil _), if_neg (List.not_lt_nil _)]

set_option maxRecDepth 100000 in
set_option maxHeartbeats 2000000 in
theorem cmpR_any (ao bo : Option Addr) (b off b' off' n m c d : Nat) (l r : List ByteArray) (w : World) (hn : n = l.length) (hm : m = r.length) (hn6 : n ≤ 1000) (hl : Strs w ao b off l) (hr : Strs w bo b' off' r) :
    Calls Tryz.prog 47 #[.slice ao n c, .slice bo m d] w fun e w' => e = .returned (.int .i64 (cmpR l r)) ∧ w' = w := by
  have HN : Hid (n = l.length) := hn
  have HM : Hid (m = r.length) := hm
  have HL : Hid (Strs w ao b off l) := hl
  have HR : Hid (Strs w bo b' off' r) := hr
  clear hn hm hl hr
  go_enter Tryz.func47, Tryz.ntmps47
  go_wp2
  go_loopw [11] (fun i wr => ∃ k : Nat, k ≤ n ∧ k ≤ m ∧ i = .int .i64 k ∧ Hid (cmpR (l.drop k) (r.drop k) = cmpR l r) ∧ wr = w) (fun i _ => n - (intOf i).toNat)
  case atStart => exact ⟨0, Nat.zero_le _, Nat.zero_le _, rfl, by show _ = _; simp, rfl⟩
  case round =>
    obtain ⟨k, hk, hkm, rfl, HK, hw⟩ := hrel
    subst hw
    by_cases hlt : k < n
    · have hkl : k < l.length := by have := HN.out; omega
      have hao := HL.out.adr (by omega)
      have f0 := HL.out.cell k hkl
      obtain ⟨s, hs⟩ : ∃ s, s = l[k] := ⟨_, rfl⟩
      rw [← hs] at f0
      have HSS : Hid (s = l[k]) := hs
      clear hs
      by_cases hlt2 : k < m
      · have hkr : k < r.length := by have := HM.out; omega
        have hbo := HR.out.adr (by omega)
        have g0 := HR.out.cell k hkr
        obtain ⟨t, ht⟩ : ∃ t, t = r[k] := ⟨_, rfl⟩
        rw [← ht] at g0
        have HT : Hid (t = r[k]) := ht
        have hcall := cmpS_any s t wr
        have dg : decide ((m : Int) ≤ (k : Int)) = false := by simp; omega
        clear ht
        subst hao hbo
        by_cases hz : cmpS s t = 0
        · have HE : Hid (cmpR (l.drop (k + 1)) (r.drop (k + 1)) = cmpR l r) := by
            show _ = _
            rw [← HK.out, cmpR_step hkl hkr (by rw [← HSS.out, ← HT.out]; exact hz)]
          rw [hz] at hcall
          clear hz
          go_wp2_with fail
          refine hcall.mono ?_
          rintro e w1 ⟨rfl, hw⟩
          have hw' := hw.symm
          subst hw'
          go_wp2
          go_roundw
          case rel => exact ⟨k + 1, by omega, by omega, by go_num, HE, trivial⟩
          case measure => simp [intOf]; omega
        · have HE : Hid (cmpR l r = cmpS s t) := by
            show _ = _
            rw [← HK.out, cmpR_hit hkl hkr (by rw [← HSS.out, ← HT.out]; exact hz), ← HSS.out, ← HT.out]
          obtain ⟨e0, he0⟩ : ∃ e0, e0 = cmpS s t := ⟨_, rfl⟩
          rw [← he0] at hcall hz HE
          have bn : (e0 == 0) = false := by simp [hz]
          have bb : (e0 != 0) = true := by simp [hz]
          clear he0 hz
          go_wp2_with fail
          refine hcall.mono ?_
          rintro e w1 ⟨rfl, hw⟩
          have hw' := hw.symm
          subst hw'
          go_wp2
          go_ret
          refine ⟨?_, rfl⟩
          rw [HE.out]; rfl
      · have HE : Hid (cmpR l r = 1) := by
          show _ = _
          rw [← HK.out, cmpR_more hkl (by have := HM.out; omega)]
        have dg : decide ((m : Int) ≤ (k : Int)) = true := by simp; omega
        subst hao
        go_wp2
        go_ret
        refine ⟨?_, rfl⟩
        rw [HE.out]; rfl
    · by_cases hnm : n < m
      · have HE : Hid (cmpR l r = -1) := by
          show _ = _
          rw [← HK.out, cmpR_less (by have := HN.out; omega) (by have := HM.out; omega)]
        go_wp2
        go_ret
        refine ⟨?_, rfl⟩
        rw [HE.out]; rfl
      · have HE : Hid (cmpR l r = 0) := by
          show _ = _
          rw [← HK.out, cmpR_same (by have := HN.out; omega) (by have := HM.out; omega)]
        go_wp2
        go_ret
        refine ⟨?_, rfl⟩
        rw [HE.out]; rfl

set_option maxRecDepth 100000 in
set_option maxHeartbeats 1000000 in
theorem or_any (sb : Nat) (x y : Int) (w : World) (h : w.heap[sb]? = some (.cells #[.int .i64 x, .int .i64 y] 3 (0, 0))) :
    Calls Tryz.prog 155 #[.slice (some ⟨sb, 0, none⟩) 2 2] w fun e w' => e = .returned (.int .i64 (if x ≠ 0 then x else y)) ∧ w' = w := by
  obtain ⟨r, hr⟩ : ∃ r, r = (if x ≠ 0 then x else y) := ⟨_, rfl⟩
  rw [← hr]
  have H1 : Hid (x ≠ 0 → r = x) := fun h => by rw [hr, if_pos h]
  have H2 : Hid (x = 0 → r = y) := fun h => by rw [hr, if_neg (by simp [h])]
  clear hr
  have c0 : w.cell? ⟨sb, 0, none⟩ = some (.int .i64 x) := by simp [World.cell?, h]
  have c1 : w.cell? ⟨sb, 1, none⟩ = some (.int .i64 y) := by simp [World.cell?, h]
  have l0 : sb < w.heap.size := lt_of_block h
  clear h
  go_enter Tryz.func155, Tryz.ntmps155
  go_wp2
  go_loopw [8] (fun i wr => ∃ k : Nat, k ≤ 2 ∧ i = .int .i64 k ∧ (0 < k → Hid (x = 0)) ∧ (1 < k → Hid (y = 0)) ∧ wr = w) (fun i _ => 2 - (intOf i).toNat)
  case atStart => exact ⟨0, by omega, rfl, fun h => by omega, fun h => by omega, rfl⟩
  case round =>
    obtain ⟨k, hk, rfl, HX, HY, hw⟩ := hrel
    subst hw
    match k, hk with
    | 0, _ =>
      by_cases hx : x = 0
      · subst hx
        go_wp2
        go_roundw
        case rel => exact ⟨1, by omega, by go_num, fun _ => (by first | exact trivial | exact rfl), fun h => by omega, trivial⟩
        case measure => simp [intOf]
      · have HE : Hid (r = x) := H1.out hx
        have bn : (x == 0) = false := by simp [hx]
        have bb : (x != 0) = true := by simp [hx]
        clear hx
        go_wp2
        go_ret
        refine ⟨?_, rfl⟩
        rw [HE.out]; rfl
    | 1, _ =>
      have hx := (HX (by omega)).out
      have HE : Hid (r = y) := H2.out hx
      have HX0 : Hid (x = 0) := hx
      clear HX HY hx
      by_cases hy : y = 0
      · subst hy
        go_wp2
        go_roundw
        case rel => exact ⟨2, by omega, by go_num, fun _ => HX0, fun _ => (by first | exact trivial | exact rfl), trivial⟩
        case measure => simp [intOf]
      · have bn : (y == 0) = false := by simp [hy]
        have bb : (y != 0) = true := by simp [hy]
        clear hy
        go_wp2
        go_ret
        refine ⟨?_, rfl⟩
        rw [HE.out]; rfl
    | 2, _ =>
      have hx := (HX (by omega)).out
      have hy := (HY (by omega)).out
      have HE : Hid (r = 0) := (H2.out hx).trans hy
      clear HX HY hx hy
      go_wp2
      go_ret
      refine ⟨?_, rfl⟩
      rw [HE.out]; rfl

theorem grown_new (w : World) (a b c : Obj) (n : Nat) : (((w.alloc a).alloc b).drewN n).alloc c = grow (w.drewN n) #[a, b, c] := by
  have e : ∀ (W : World) (o : Obj), W.alloc o = grow W #[o] := alloc_eq_grow
  rw [e, e, e]
  show grow (grow (grow (w.drewN n) #[a]) #[b]) #[c] = _
  rw [grow_grow, grow_grow]
  rfl

set_option maxRecDepth 100000 in
set_option maxHeartbeats 4000000 in
theorem compareC (p q : Pol) (u v : Value) (w : World) (hu : ReadersAt w u p.2) (hv : ReadersAt w v q.2) (h6 : p.2.length ≤ 1000) :
    Calls Tryz.prog 109 #[.agg #[.string p.1, u], .agg #[.string q.1, v]] w fun e w' => e = .returned (.int .i64 (cmpP p q)) ∧ ∃ k os, w' = grow (w.drewN k) os := by
  obtain ⟨o, rs⟩ := p
  obtain ⟨o', rs'⟩ := q
  have HE : Hid (cmpP (o, rs) (o', rs') = if cmpS o o' ≠ 0 then cmpS o o' else cmpR rs rs') := cmpP_eq _ _
  obtain ⟨ro, rb, roff, rc, hu1, _, _, hu4⟩ := hu
  obtain ⟨ro', rb', roff', rc', hv1, _, _, hv4⟩ := hv
  subst hu1 hv1
  simp only at hu4 hv4 h6 ⊢
  obtain ⟨wz, hwz⟩ : ∃ wz, wz = (w.alloc (.cells #[.string o, .slice ro rs.length rc] 72)).alloc (.cells #[.string o', .slice ro' rs'.length rc'] 72) := ⟨_, rfl⟩
  have hbz : Below w.heap.size w wz := by rw [hwz]; exact ((Below.refl _ _).alloc (Nat.le_refl _) _).alloc (by simp) _
  have k0 : wz.heap[w.heap.size]? = some (.cells #[.string o, .slice ro rs.length rc] 72 (0, 0)) := by rw [hwz]; exact heap_past_alloc (heap_at_alloc _ _ _ rfl)
  have k1 : wz.heap[w.heap.size + 1]? = some (.cells #[.string o', .slice ro' rs'.length rc'] 72 (0, 0)) := by rw [hwz]; exact heap_at_alloc _ _ _ (by simp)
  have HR : Hid (∀ k, Calls Tryz.prog 47 #[.slice ro rs.length rc, .slice ro' rs'.length rc'] (wz.drewN k) fun e w' => e = .returned (.int .i64 (cmpR rs rs')) ∧ w' = wz.drewN k) := fun k =>
    cmpR_any ro ro' rb roff rb' roff' _ _ rc rc' rs rs' _ rfl rfl h6 ((hu4.later hbz).of_heap rfl) ((hv4.later hbz).of_heap rfl)
  rw [HE.out]
  obtain ⟨x, hx⟩ : ∃ x, x = cmpS o o' := ⟨_, rfl⟩
  obtain ⟨y, hy⟩ : ∃ y, y = cmpR rs rs' := ⟨_, rfl⟩
  obtain ⟨n, hn⟩ : ∃ n, n = rs.length := ⟨_, rfl⟩
  obtain ⟨n', hn'⟩ : ∃ n', n' = rs'.length := ⟨_, rfl⟩
  have HX : Hid (∀ W, Calls Tryz.prog 90 #[.string o, .string o'] W fun e w' => e = .returned (.int .i64 x) ∧ w' = W) := fun W => by rw [hx]; exact cmpS_any o o' W
  rw [← hx, ← hy, ← hn, ← hn']
  rw [← hy, ← hn, ← hn'] at HR
  rw [← hn] at k0 hwz
  rw [← hn'] at k1 hwz
  have c0 : wz.cell? ⟨w.heap.size, 0, none⟩ = some (.string o) := by simp [World.cell?, k0]
  have c1 : wz.cell? ⟨w.heap.size, 1, none⟩ = some (.slice ro n rc) := by simp [World.cell?, k0]
  have c2 : wz.cell? ⟨w.heap.size + 1, 0, none⟩ = some (.string o') := by simp [World.cell?, k1]
  have c3 : wz.cell? ⟨w.heap.size + 1, 1, none⟩ = some (.slice ro' n' rc') := by simp [World.cell?, k1]
  obtain ⟨b0, hb0⟩ : ∃ b0, b0 = w.heap.size := ⟨_, rfl⟩
  obtain ⟨b1, hb1⟩ : ∃ b1, b1 = w.heap.size + 1 := ⟨_, rfl⟩
  have l0 : b0 < wz.heap.size := by rw [hb0]; exact lt_of_block k0
  have l1 : b1 < wz.heap.size := by rw [hb1]; exact lt_of_block k1
  rw [← hb0] at c0 c1
  rw [← hb1] at c2 c3
  have HB0 : Hid (w.heap.size = b0) := hb0.symm
  have HB1 : Hid (b0 + 1 = b1) := by show _ = _; rw [hb0, hb1]
  have HWZ : Hid (wz = (w.alloc (.cells #[.string o, .slice ro n rc] 72)).alloc (.cells #[.string o', .slice ro' n' rc'] 72)) := hwz
  clear hx hy hn hn' hu4 hv4 HE hbz h6 k0 k1 hwz hb0 hb1
  obtain ⟨z, hz⟩ : ∃ z, z = (if x ≠ 0 then x else y) := ⟨_, rfl⟩
  have HZ : Hid ((if x ≠ 0 then x else y) = z) := hz.symm
  rw [HZ.out]
  clear hz
  go_enter Tryz.func109, Tryz.ntmps109
  go_wp2_with fail
  rw [← HWZ.out, HB0.out, HB1.out]
  have HOR : Hid (∀ W sb, W.heap[sb]? = some (.cells #[.int .i64 x, .int .i64 y] 3 (0, 0)) → Calls Tryz.prog 155 #[.slice (some ⟨sb, 0, none⟩) 2 2] W fun e w' => e = .returned (.int .i64 z) ∧ w' = W) := fun W sb hW => by rw [← HZ.out]; exact or_any _ x y W hW
  have HFIN : Hid (∀ c, wz.drew.alloc c = grow (w.drewN 1) #[.cells #[.string o, .slice ro n rc] 72, .cells #[.string o', .slice ro' n' rc'] 72, c]) := fun c => by rw [HWZ.out]; exact grown_new w _ _ c 1
  go_region_held3 (fun w' => w'.cell? ⟨b0, 0, none⟩ = some (.string o) ∧ w'.cell? ⟨b0, 1, none⟩ = some (.slice ro n rc) ∧ w'.cell? ⟨b1, 0, none⟩ = some (.string o') ∧ w'.cell? ⟨b1, 1, none⟩ = some (.slice ro' n' rc')) (go_keep)
    (first
      | (go_at_call 90; refine (HX.out _).mono ?_; rintro e w' ⟨rfl, rfl⟩)
      | (go_at_call 47; refine (HR.out _).mono ?_; rintro e w' ⟨rfl, rfl⟩)
      | (go_at_call 155; refine (HOR.out _ _ (heap_at_alloc _ _ _ rfl)).mono ?_; rintro e w' ⟨rfl, rfl⟩))
  all_goals go_wp2
  all_goals go_ret
  all_goals exact ⟨rfl, _, _, HFIN.out _⟩
end Go.Proofs.YtnligpcfkmdjeaaGreatDoor
