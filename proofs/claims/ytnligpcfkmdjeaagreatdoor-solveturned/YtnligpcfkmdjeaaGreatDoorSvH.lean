/- SolveHolds: the law returns true. -/
import Derived.Test.YtnligpcfkmdjeaaGreatDoorGaSv
import Derived.Test.YtnligpcfkmdjeaaGreatDoorGaLabW
import Derived.Deep.RegionHeld3
import Derived.Deep.Cut
namespace Go.Proofs.YtnligpcfkmdjeaaGreatDoor
open Go.RowKit

/- Is it a bound into a label that is looked for? -/
def toF (l : List RBd) (i : Int) : Bool := match l[i.toNat]? with
  | some x => decide (0 ≤ x.dst)
  | none => false
theorem toF_at {l : List RBd} {k : Nat} (h : k < l.length) : toF l (k : Int) = decide (0 ≤ l[k].dst) := by
  unfold toF
  rw [Int.toNat_natCast, List.getElem?_eq_getElem h]
theorem brk_least {ps : List (ByteArray × ByteArray)} {hv : List (List Pol)} {l : List RBd} {xs : List Int} (hL : Sol.Holds ps (l.map toB) (Sol.hs hv)) (h : BrkOK ps hv l xs) : xs.any (toF l) = false := by
  obtain ⟨bk, h1, rfl⟩ := h.ex
  rw [List.any_eq_false]
  intro i hi
  obtain ⟨k, hk, rfl⟩ := List.mem_map.1 hi
  obtain ⟨hk1, hk2⟩ := List.mem_filter.1 hk
  have hkl : k < l.length := List.mem_range.1 hk1
  have e : toF l (Int.ofNat k) = decide (0 ≤ l[k].dst) := toF_at hkl
  rw [e, decide_eq_true_eq]
  intro hd
  refine (h1 k hkl).1 hk2 ?_
  have hd' : (toB l[k]).dst ≠ -1 := by show l[k].dst ≠ -1; omega
  have := hL (toB l[k]) (List.mem_map.2 ⟨_, List.getElem_mem hkl, rfl⟩) hd'
  unfold Sol.holds Sol.goal
  rw [if_neg hd']
  exact this
theorem brk_holds {ls : List ByteArray} {ps : List (ByteArray × ByteArray)} {N : Nat} {hv : List (List Pol)} {l : List RBd} {xs : List Int} (hg : ∀ x ∈ l, GoodB ls N x) (h : BrkOK ps hv l xs) (ha : xs.any (toF l) = false) : Sol.Holds ps (l.map toB) (Sol.hs hv) := by
  obtain ⟨bk, h1, rfl⟩ := h.ex
  rw [List.any_eq_false] at ha
  intro b hb hd
  obtain ⟨x, hx, rfl⟩ := List.mem_map.1 hb
  obtain ⟨k, hk, rfl⟩ := List.mem_iff_getElem.1 hx
  have hd0 : l[k].dst ≠ -1 := hd
  apply Classical.byContradiction
  intro hn
  have hbk : bk k = true := (h1 k hk).2 fun hh => hn (by
    unfold Sol.holds Sol.goal at hh
    rw [if_neg hd] at hh
    exact hh)
  have := ha (Int.ofNat k) (List.mem_map.2 ⟨k, List.mem_filter.2 ⟨List.mem_range.2 hk, hbk⟩, rfl⟩)
  have e : toF l (Int.ofNat k) = decide (0 ≤ l[k].dst) := toF_at hk
  rw [e, decide_eq_true_eq] at this
  rcases (hg _ (List.getElem_mem hk)).dst with h2 | ⟨d, h2, _⟩ <;> omega
theorem hs_at {ys : List (List Pol)} {k : Nat} (hk : k < ys.length) (p : Pol) : Sol.hs ys k p ↔ p ∈ ys[k] := by simp [Sol.hs, List.getD, hk]
theorem least_flows {ls : List ByteArray} {ps : List (ByteArray × ByteArray)} {N : Nat} {l : List RBd} {ys hv : List (List Pol)} (h : LeastOK ls ps N l ys) (hh : Sol.Holds ps (l.map toB) (Sol.hs hv)) (hok : ∀ y ∈ hv, checkL ls ps y = 0) {k : Nat} (hk : k < ys.length) (hk' : k < hv.length) : bothL ls ps ys[k] hv[k] = 0 ∧ flowsV ls ps ys[k] hv[k] = true := by
  have c1 := h.ok _ (List.getElem_mem hk)
  have c2 := hok _ (List.getElem_mem hk')
  have hb : bothL ls ps ys[k] hv[k] = 0 := by unfold bothL; rw [if_pos c1]; exact c2
  refine ⟨hb, ?_⟩
  unfold flowsV
  rw [decide_eq_true hb, Bool.true_and, Lab.flows_iff (right_of (checkL_ok c1).1).2.2.1 (checkL_ok c1).2.2.1 (checkL_ok c2).2.2.1]
  intro q hq
  obtain ⟨p, hp, hc⟩ := h.least.least _ hh k q ((hs_at hk q).2 hq)
  exact ⟨p, (hs_at hk' p).1 hp, hc⟩
theorem chk_good {ls : List ByteArray} {ps : List (ByteArray × ByteArray)} {N : Nat} {l : List RBd} (h : chkB ls ps N l = 0) : ∀ x ∈ l, GoodB ls N x := by
  unfold chkB at h
  split at h
  · split at h
    · cases h
    · exact fun x hx => good_of (bdsE_zero h x hx)
  · rename_i hF
    exact absurd h hF

set_option maxHeartbeats 1000000 in
theorem toC1 (q : Nat) (lo : Option Addr) (lb loff ln lc : Nat) (l : List RBd) (k : Nat) (w : World) (h : w.cell? ⟨q, 0, none⟩ = some (.slice lo ln lc)) (hn : ln = l.length) (hl : Bds w lo lb loff l) (hk : k < l.length) :
    Calls Tryz.prog 21 #[.int .i64 (k : Int), .pointer (some ⟨q, 0, none⟩)] w fun e w' => e = .returned (.bool (toF l (k : Int))) ∧ w' = w := by
  rw [toF_at hk]
  have hlo := hl.adr (by omega)
  have f2 := (hl.at' k hk).c2
  have hkn : k < ln := by omega
  obtain ⟨D, hD⟩ : ∃ D, D = l[k].dst := ⟨_, rfl⟩
  rw [← hD] at f2 ⊢
  subst hlo
  clear hl hn hk hD
  go_enter Tryz.func21, Tryz.ntmps21
  go_wp2
  go_ret
  exact ⟨rfl, rfl⟩

set_option maxHeartbeats 1000000 in
theorem toC2 (q : Nat) (lo : Option Addr) (lb loff ln lc : Nat) (l : List RBd) (k : Nat) (w : World) (h : w.cell? ⟨q, 0, none⟩ = some (.slice lo ln lc)) (hn : ln = l.length) (hl : Bds w lo lb loff l) (hk : k < l.length) :
    Calls Tryz.prog 22 #[.int .i64 (k : Int), .pointer (some ⟨q, 0, none⟩)] w fun e w' => e = .returned (.bool (toF l (k : Int))) ∧ w' = w := by
  rw [toF_at hk]
  have hlo := hl.adr (by omega)
  have f2 := (hl.at' k hk).c2
  have hkn : k < ln := by omega
  obtain ⟨D, hD⟩ : ∃ D, D = l[k].dst := ⟨_, rfl⟩
  rw [← hD] at f2 ⊢
  subst hlo
  clear hl hn hk hD
  go_enter Tryz.func22, Tryz.ntmps22
  go_wp2
  go_ret
  exact ⟨rfl, rfl⟩

set_option maxRecDepth 100000 in
set_option maxHeartbeats 8000000 in
theorem law_holds (ao po lo ho : Option Addr) (b off b' off' n m c d lb loff ln lc hb hoff hc : Nat) (ls : List ByteArray) (ps : List (ByteArray × ByteArray)) (hv : List (List Pol)) (l : List RBd) (w : World) (hch : Chiefs w ao po b off b' off' n m c ls ps) (hl : Bds w lo lb loff l) (hn : ln = l.length) (hm : ln ≤ maxLen) (hhv : LbsAt w ho hb hoff hv) (hhm : hv.length ≤ maxLen) (hT : TzTab w) :
    Calls Tryz.prog 5 #[.slice ao n c, .slice po m d, .slice lo ln lc, .slice ho hv.length hc] w fun e w' => e = .returned (.bool true) ∧ Below w.heap.size w w' := by
  obtain ⟨wz, hwz⟩ : ∃ wz, wz = w.alloc (.cells #[.slice lo ln lc] 24) := ⟨_, rfl⟩
  have hbz : Below w.heap.size w wz := by rw [hwz]; exact (Below.refl _ _).alloc (Nat.le_refl _) _
  have HKZ : Hid (wz.heap[w.heap.size]? = some (.cells #[.slice lo ln lc] 24 (0, 0))) := by rw [hwz]; exact heap_at_alloc _ _ _ rfl
  have HWZ : Hid (wz = w.alloc (.cells #[.slice lo ln lc] 24)) := hwz
  have HBX : Hid (∀ W, Below wz.heap.size wz W → W.cell? ⟨w.heap.size, 0, none⟩ = some (.slice lo ln lc)) := fun W hW => (hW.cell (p := ⟨w.heap.size, 0, none⟩) (lt_of_block HKZ.out)).trans (by simp [World.cell?, HKZ.out])
  obtain ⟨nh, hnh⟩ : ∃ nh, nh = hv.length := ⟨_, rfl⟩
  have hcall := leastL ao po lo b off b' off' n m c d lb loff ln lc (nh : Int) ls ps l wz (hch.later hbz) (hl.later hbz) hn hm (hT.later hbz)
  rw [Int.toNat_natCast] at hcall
  rw [← hnh] at hhm ⊢
  have HNH : Hid (nh = hv.length) := hnh
  have HCH : Hid (Chiefs wz ao po b off b' off' n m c ls ps) := hch.later hbz
  have HBD : Hid (Bds wz lo lb loff l) := hl.later hbz
  have HHV : Hid (LbsAt wz ho hb hoff hv) := hhv.later hbz
  have HT : Hid (TzTab wz) := hT.later hbz
  have HLN : Hid (ln = l.length) := hn
  have HLM : Hid (ln ≤ maxLen) := hm
  have HBZ : Hid (Below w.heap.size w wz) := hbz
  have eg1 : ∀ args w, (callFunc 21 args).run Tryz.prog w = .ok (.enter 21 args) w := enters_of Tryz.func21 (by kernel_rfl) rfl
  have eg2 : ∀ args w, (callFunc 22 args).run Tryz.prog w = .ok (.enter 22 args) w := enters_of Tryz.func22 (by kernel_rfl) rfl
  clear hch hl hhv hT hn hm hbz hwz hnh
  go_enter Tryz.func5, Tryz.ntmps5
  go_wp2_with fail
  rw [← HWZ.out]
  refine hcall.mono ?_
  clear hcall
  rintro e w1 ⟨hb1, ⟨hne, rfl⟩ | ⟨h0, ro, rb, rc, ys, rfl, hysm, hat, hok⟩⟩
  · obtain ⟨E, hE⟩ : ∃ E, E = chkB ls ps (nh : Int) l := ⟨_, rfl⟩
    rw [← hE] at hne ⊢
    have bn : (E != 0) = true := by simp [hne]
    have be : (E == 0) = false := by simp [hne]
    have HB1 : Hid (Below wz.heap.size wz w1) := hb1
    clear hE hb1
    go_wp2_with fail
    refine (solved_any _ (HT.out.later HB1.out)).mono ?_
    rintro e w2 ⟨rfl, hb2⟩
    have HB2 : Hid (Below wz.heap.size wz w2) := HB1.out.trans (hb2.mono HB1.out.size)
    clear hb2
    go_wp2_with fail
    refine (solved_any _ (HT.out.later HB2.out)).mono ?_
    rintro e w3 ⟨rfl, hb3⟩
    have HB3 : Hid (Below wz.heap.size wz w3) := HB2.out.trans (hb3.mono HB2.out.size)
    clear hb3
    go_wp2
    go_ret
    exact ⟨rfl, HBZ.out.trans (HB3.out.mono HBZ.out.size)⟩
  · have hyn : ys.length = nh := hok.len
    have HB1 : Hid (Below wz.heap.size wz w1) := hb1
    have HA : Hid (LbsAt w1 ro rb 0 ys) := hat
    have HOK : Hid (LeastOK ls ps nh l ys) := hok
    have HYN : Hid (ys.length = nh) := hyn
    have H0 : Hid (chkB ls ps (nh : Int) l = 0) := h0
    rw [hyn]
    clear hb1 hat hok hyn h0 hysm
    go_wp2_with fail
    refine (solved_any _ (HT.out.later HB1.out)).mono ?_
    rintro e w2 ⟨rfl, hb2⟩
    have HB2 : Hid (Below wz.heap.size wz w2) := HB1.out.trans (hb2.mono HB1.out.size)
    have HA2 : Hid (LbsAt w2 ro rb 0 ys) := HA.out.later hb2
    have x2 := HBX.out w2 HB2.out
    have hbr := brokenL ao po lo ro b off b' off' n m c d lb loff ln lc rb 0 rc ls ps ys l w2 (HCH.out.later HB2.out) (HBD.out.later HB2.out) HLN.out HLM.out HA2.out (by rw [HYN.out]; exact hhm) (HT.out.later HB2.out)
    have HZ : Hid (brkE ls ps ys l = 0) := by
      show _ = _
      unfold brkE
      rw [HYN.out, if_pos H0.out]
      exact hvE_zero.2 HOK.out.ok
    rw [HYN.out] at hbr
    clear hb2 HA
    go_wp2_with fail
    refine hbr.mono ?_
    clear hbr
    rintro e w3 ⟨hb3, ⟨hne, _⟩ | ⟨_, xo, xb, xc, xs, rfl, hxm, hxs, hbk⟩⟩
    · exact absurd HZ.out hne
    have HB3 : Hid (Below wz.heap.size wz w3) := HB2.out.trans (hb3.mono HB2.out.size)
    have HA3 : Hid (LbsAt w3 ro rb 0 ys) := HA2.out.later hb3
    have x3 := HBX.out w3 HB3.out
    have HXS : Hid (∀ i ∈ xs, ∃ k : Nat, i = (k : Int) ∧ k < l.length) := fun i hi => by
      obtain ⟨bk, _, rfl⟩ := hbk.ex
      obtain ⟨k, hk, rfl⟩ := List.mem_map.1 hi
      exact ⟨k, rfl, List.mem_range.1 (List.mem_filter.1 hk).1⟩
    have hcf := containsFuncI 21 #[.pointer (some ⟨w.heap.size, 0, none⟩)] eg1 (toF l) xo xb 0 xs.length xc xs w3 rfl hxm hxs (fun W i hi hW => by
      obtain ⟨k, rfl, hk⟩ := HXS.out i hi
      have hWz := HB3.out.trans (hW.mono HB3.out.size)
      exact (toC1 w.heap.size lo lb loff ln lc l k W (HBX.out W hWz) HLN.out (HBD.out.later hWz) hk).mono fun e w' ⟨h1, h2⟩ => ⟨h1, by rw [h2]; exact Below.refl _ _⟩)
    rw [brk_least HOK.out.least.holds hbk] at hcf
    obtain ⟨nx, hnx⟩ : ∃ nx, nx = xs.length := ⟨_, rfl⟩
    rw [← hnx] at hcf ⊢
    clear hb3 hxs hbk hxm hnx x2 HA2 HXS
    go_wp2_with fail
    refine hcf.mono ?_
    rintro e w4 ⟨rfl, hb4⟩
    have HB4 : Hid (Below wz.heap.size wz w4) := HB3.out.trans (hb4.mono HB3.out.size)
    have HA4 : Hid (LbsAt w4 ro rb 0 ys) := HA3.out.later hb4
    have x4 := HBX.out w4 HB4.out
    have hbr := brokenL ao po lo ho b off b' off' n m c d lb loff ln lc hb hoff hc ls ps hv l w4 (HCH.out.later HB4.out) (HBD.out.later HB4.out) HLN.out HLM.out (HHV.out.later HB4.out) (by rw [← HNH.out]; exact hhm) (HT.out.later HB4.out)
    rw [← HNH.out] at hbr
    clear hb4 x3 HA3 hcf
    go_wp2_with fail
    refine hbr.mono ?_
    clear hbr
    rintro e w5 ⟨hb5, ⟨hne, rfl⟩ | ⟨hz, yo, yb, yc, zs, rfl, hzm, hzs, hbk⟩⟩
    · obtain ⟨E, hE⟩ : ∃ E, E = brkE ls ps hv l := ⟨_, rfl⟩
      rw [← hE] at hne ⊢
      have bn : (E != 0) = true := by simp [hne]
      have be : (E == 0) = false := by simp [hne]
      have HB5 : Hid (Below wz.heap.size wz w5) := HB4.out.trans (hb5.mono HB4.out.size)
      clear hE hb5
      go_wp2
      go_ret
      exact ⟨rfl, HBZ.out.trans (HB5.out.mono HBZ.out.size)⟩
    · have HB5 : Hid (Below wz.heap.size wz w5) := HB4.out.trans (hb5.mono HB4.out.size)
      have HA5 : Hid (LbsAt w5 ro rb 0 ys) := HA4.out.later hb5
      have x5 := HBX.out w5 HB5.out
      have HXS : Hid (∀ i ∈ zs, ∃ k : Nat, i = (k : Int) ∧ k < l.length) := fun i hi => by
        obtain ⟨bk, _, rfl⟩ := hbk.ex
        obtain ⟨k, hk, rfl⟩ := List.mem_map.1 hi
        exact ⟨k, rfl, List.mem_range.1 (List.mem_filter.1 hk).1⟩
      have hcf := containsFuncI 22 #[.pointer (some ⟨w.heap.size, 0, none⟩)] eg2 (toF l) yo yb 0 zs.length yc zs w5 rfl hzm hzs (fun W i hi hW => by
        obtain ⟨k, rfl, hk⟩ := HXS.out i hi
        have hWz := HB5.out.trans (hW.mono HB5.out.size)
        exact (toC2 w.heap.size lo lb loff ln lc l k W (HBX.out W hWz) HLN.out (HBD.out.later hWz) hk).mono fun e w' ⟨h1, h2⟩ => ⟨h1, by rw [h2]; exact Below.refl _ _⟩)
      have HG : Hid (zs.any (toF l) = false → ∀ k (h : k < ys.length) (h' : k < hv.length), bothL ls ps ys[k] hv[k] = 0 ∧ flowsV ls ps ys[k] hv[k] = true) := fun ha k h h' => by
        have hz' : hvE ls ps hv = 0 := by
          unfold brkE at hz
          rw [← HNH.out, if_pos H0.out] at hz
          exact hz
        exact least_flows HOK.out (brk_holds (chk_good H0.out) hbk ha) (hvE_zero.1 hz') h h'
      obtain ⟨nz, hnz⟩ : ∃ nz, nz = zs.length := ⟨_, rfl⟩
      rw [← hnz] at hcf ⊢
      cases hq : zs.any (toF l) with
      | true =>
        rw [hq] at hcf
        clear hb5 hzs hbk hzm hnz x4 HA4 HXS HG hz hq
        go_wp2_with fail
        refine hcf.mono ?_
        rintro e w6 ⟨rfl, hb6⟩
        have HB6 : Hid (Below wz.heap.size wz w6) := HB5.out.trans (hb6.mono HB5.out.size)
        clear hb6 hcf
        go_wp2
        go_ret
        exact ⟨rfl, HBZ.out.trans (HB6.out.mono HBZ.out.size)⟩
      | false =>
        rw [hq] at hcf
        have HF : Hid (∀ k (h : k < ys.length) (h' : k < hv.length), bothL ls ps ys[k] hv[k] = 0 ∧ flowsV ls ps ys[k] hv[k] = true) := HG.out hq
        clear hb5 hzs hbk hzm hnz x4 HA4 HXS HG hz hq
        go_wp2_with fail
        refine hcf.mono ?_
        rintro e w6 ⟨rfl, hb6⟩
        have HB6 : Hid (Below wz.heap.size wz w6) := HB5.out.trans (hb6.mono HB5.out.size)
        have HA6 : Hid (LbsAt w6 ro rb 0 ys) := HA5.out.later hb6
        have HHM : Hid (nh ≤ maxLen) := hhm
        have hhm' : nh ≤ 9223372036854775807 := hhm
        clear hb6 hcf x5 HA5 hhm
        go_wp2
        go_loopw [63] (fun i wr => ∃ k : Nat, k ≤ nh ∧ i = .int .i64 k ∧ Hid (Below w6.heap.size w6 wr)) (fun i _ => nh - (intOf i).toNat)
        case atStart => exact ⟨0, Nat.zero_le _, rfl, Below.refl _ _⟩
        case round =>
          obtain ⟨k, hk, rfl, HB⟩ := hrel
          by_cases hlt : k < nh
          · have hky : k < ys.length := by rw [HYN.out]; exact hlt
            have hkv : k < hv.length := by rw [← HNH.out]; exact hlt
            have HBW : Hid (Below wz.heap.size wz wr) := HB6.out.trans (HB.out.mono HB6.out.size)
            have hAr := HA6.out.later HB.out
            have hVr := HHV.out.later HBW.out
            have hro := hAr.adr (by omega)
            have hho := hVr.adr (by omega)
            obtain ⟨v1, f1, o1, b1, of1, n1, c1, hv1, L1⟩ := hAr.at' k hky
            obtain ⟨v2, f2, o2, b2, of2, n2, c2, hv2, L2⟩ := hVr.at' k hkv
            subst hv1 hv2
            have hfl := flowsC ao po o1 o2 b off b' off' n m c d b1 of1 n1 c1 b2 of2 n2 c2 ls ps ys[k] hv[k] wr.drew ((HCH.out.later HBW.out).later (below_drew wr)) (L1.later (below_drew wr)) (L2.later (below_drew wr))
            rw [(HF.out k hky hkv).1, (HF.out k hky hkv).2] at hfl
            rw [Nat.zero_add] at f1
            have HFL : Hid (Calls Tryz.prog 23 #[.slice ao n c, .slice po m d, .slice o1 n1 c1, .slice o2 n2 c2] wr.drew fun e w' => e = .returned (.tuple #[.bool true, .int .i64 0]) ∧ Below wr.drew.heap.size wr.drew w') := hfl
            clear hfl hAr hVr L1 L2 hky hkv
            subst hro
            subst hho
            go_wp2
            go_region_held3 (fun w' => w'.cell? ⟨rb, k, none⟩ = some (.slice o1 n1 c1) ∧ w'.cell? ⟨hb, hoff + k, none⟩ = some (.slice o2 n2 c2)) (go_keep)
              (first
                | (go_at_call 23; refine HFL.out.mono ?_; rintro e w7 ⟨rfl, hb7⟩; have HB7 : Hid (Below w6.heap.size w6 w7) := HB.out.trans (((below_drew wr).trans hb7).mono HB.out.size); have y1 := cell_below (hb7) f1; have y2 := cell_below hb7 f2; clear hb7))
            all_goals go_wp2
            go_roundw
            case rel => exact ⟨k + 1, by omega, by go_num, HB7⟩
            case measure => simp [intOf]; omega
          · go_wp2
            go_ret
            exact ⟨rfl, HBZ.out.trans ((HB6.out.trans (HB.out.mono HB6.out.size)).mono HBZ.out.size)⟩
end Go.Proofs.YtnligpcfkmdjeaaGreatDoor
