/- The law LabelNormal, walked. -/
import Derived.Test.YtjfiakoningmkaaGreatDoorGaErr
import Derived.Test.YtjfiakoningmkaaGreatDoorGaSame
import Derived.Test.YtjfiakoningmkaaGreatDoorLabelled
import Derived.Test.YtjfiakoningmkaaGreatDoorGaRef
import Derived.Deep.RegionHeld3
import Derived.Deep.Cut
namespace Go.Proofs.YtjfiakoningmkaaGreatDoor
open Go.RowKit

theorem LabNew.later' {w w' : World} {base : Nat} {v : Value} {y : List Pol} (h : LabNew w base v y) (hb : Below w.heap.size w w') : LabNew w' base v y := by
  obtain ⟨M, h1, h2, h3⟩ := h
  exact ⟨M, h1, own_below h2 hb, fun z hz => (h3 z hz).later hb⟩
theorem same_new {w : World} {b1 b2 : Nat} {v1 v2 : Value} {y : List Pol} (h1 : LabNew w b1 v1 y) (h2 : LabNew w b2 v2 y) (hs : ∀ p ∈ y, SmallP p) (hl : y.length ≤ 1000) :
    Calls Tryz.prog 9 #[v1, v2] w fun e w' => e = .returned (.bool true) ∧ Below w.heap.size w w' := by
  obtain ⟨ao, b, off, cap, e1, k1⟩ := h1.at' hs
  obtain ⟨ao', b', off', cap', e2, k2⟩ := h2.at' hs
  subst e1 e2
  exact sameLabel ao ao' b off b' off' y.length cap cap' y w hl k1 k2 (fun p hp => (hs p hp).few)
theorem labs_one {w : World} {sb : Nat} {lo : Option Addr} {lb loff ln lc : Nat} {x : List Pol} (h : w.heap[sb]? = some (.cells #[.slice lo ln lc] 25 (0, 0))) (hx : LabAt w lo lb loff ln lc x) : LabsAt w sb 1 [x] := by
  refine ⟨rfl, lt_of_block h, fun k hk => ?_⟩
  match k, hk with
  | 0, _ => exact ⟨lo, lb, loff, ln, lc, by simp [World.cell?, h], hx⟩
theorem labs_two {w : World} {sb : Nat} {lo mo : Option Addr} {lb loff ln lc mb moff mn mc : Nat} {x y : List Pol} (h : w.heap[sb]? = some (.cells #[.slice lo ln lc, .slice mo mn mc] 25 (0, 0))) (hx : LabAt w lo lb loff ln lc x) (hy : LabAt w mo mb moff mn mc y) : LabsAt w sb 2 [x, y] := by
  refine ⟨rfl, lt_of_block h, fun k hk => ?_⟩
  match k, hk with
  | 0, _ => exact ⟨lo, lb, loff, ln, lc, by simp [World.cell?, h], hx⟩
  | 1, _ => exact ⟨mo, mb, moff, mn, mc, by simp [World.cell?, h], hy⟩
theorem pairs_of {w : World} {ao po : Option Addr} {b off b' off' n m c : Nat} {ls : List ByteArray} {ps : List (ByteArray × ByteArray)} (hc : Chiefs w ao po b off b' off' n m c ls ps) (h : checkF ls ps = 0) : Pairs w po b' off' m ps := by
  obtain ⟨_, h2, _, _⟩ := right_of h
  exact ⟨hc.lm, by have := hc.lm; omega, hc.prs⟩
theorem below_alloc' {w W : World} (h : Below w.heap.size w W) (o : Obj) : Below w.heap.size w (W.alloc o) := h.alloc h.size o
theorem below_drew' {w W : World} (h : Below w.heap.size w W) : Below w.heap.size w W.drew := ⟨h.os, h.tape, h.output, h.size, h.block⟩
theorem new_none (w : World) (base : Nat) : LabNew w base (.slice none 0 0) [] := ⟨[], rfl, World.ownsRow_nil _ _ _ _, fun z hz => by cases hz⟩

/- The three calls, whatever they answer. -/
theorem normX (ao po lo : Option Addr) (b off b' off' n m c d lb loff ln lc : Nat) (ls : List ByteArray) (ps : List (ByteArray × ByteArray)) (x : List Pol) (w : World) (hc : Chiefs w ao po b off b' off' n m c ls ps) (hx : LabAt w lo lb loff ln lc x) :
    Calls Tryz.prog 4 #[.slice ao n c, .slice po m d, .slice lo ln lc] w fun e w' => ∃ (v : Value) (y : List Pol), e = .returned (.tuple #[v, .int .i64 (checkL ls ps x)]) ∧ (checkL ls ps x = 0 → Lab.Norm blt plt ps x y) ∧ (checkL ls ps x ≠ 0 → v = .slice none 0 0) ∧ LabNew w' w.heap.size v y ∧ Below w.heap.size w w' := by
  by_cases h : checkL ls ps x = 0
  · refine (normC ao po lo b off b' off' n m c d lb loff ln lc ls ps x w hc hx).mono ?_
    rintro e w' ⟨v, y, h1, h2, h3, h4⟩
    exact ⟨v, y, h1, h2, fun k => absurd h k, h3, h4⟩
  · refine (normE ao po lo b off b' off' n m c d lb loff ln lc ls ps x w hc hx h).mono ?_
    rintro e w' ⟨h1, h4⟩
    exact ⟨_, [], h1, fun k => absurd k h, fun _ => rfl, new_none _ _, h4⟩
theorem joinX (ao po lo mo : Option Addr) (b off b' off' n m c d lb loff ln lc mb moff mn mc : Nat) (ls : List ByteArray) (ps : List (ByteArray × ByteArray)) (x z : List Pol) (w : World) (hc : Chiefs w ao po b off b' off' n m c ls ps) (hx : LabAt w lo lb loff ln lc x) (hz : LabAt w mo mb moff mn mc z) :
    Calls Tryz.prog 5 #[.slice ao n c, .slice po m d, .slice lo ln lc, .slice mo mn mc] w fun e w' => ∃ (v : Value) (y : List Pol), e = .returned (.tuple #[v, .int .i64 (bothL ls ps x z)]) ∧ (bothL ls ps x z = 0 → Lab.Norm blt plt ps (x ++ z) y) ∧ (bothL ls ps x z ≠ 0 → v = .slice none 0 0) ∧ LabNew w' w.heap.size v y ∧ Below w.heap.size w w' := by
  by_cases h : bothL ls ps x z = 0
  · refine (joinC ao po lo mo b off b' off' n m c d lb loff ln lc mb moff mn mc ls ps x z w hc hx hz).mono ?_
    rintro e w' ⟨v, y, h1, h2, h3, h4⟩
    exact ⟨v, y, h1, h2, fun k => absurd h k, h3, h4⟩
  · refine (joinE ao po lo mo b off b' off' n m c d lb loff ln lc mb moff mn mc ls ps x z w hc hx hz h).mono ?_
    rintro e w' ⟨h1, h4⟩
    exact ⟨_, [], h1, fun k => absurd k h, fun _ => rfl, new_none _ _, h4⟩
theorem lessX (ao po lo vo : Option Addr) (b off b' off' n m c d lb loff ln lc vb voff vn vc : Nat) (ls : List ByteArray) (ps : List (ByteArray × ByteArray)) (x : List Pol) (bs : List ByteArray) (w : World) (hc : Chiefs w ao po b off b' off' n m c ls ps) (hx : LabAt w lo lb loff ln lc x) (hvn : vn = bs.length) (hvm : vn ≤ maxLen) (hv : Strs w vo vb voff bs) :
    Calls Tryz.prog 6 #[.slice ao n c, .slice po m d, .slice lo ln lc, .slice vo vn vc] w fun e w' => ∃ (v : Value) (y : List Pol), e = .returned (.tuple #[v, .int .i64 (lessE ls ps x bs)]) ∧ (lessE ls ps x bs = 0 → Lab.Norm blt plt ps (leftF ls ps x bs) y) ∧ (lessE ls ps x bs ≠ 0 → v = .slice none 0 0) ∧ LabNew w' w.heap.size v y ∧ Below w.heap.size w w' := by
  by_cases h : lessE ls ps x bs = 0
  · refine (lessC ao po lo vo b off b' off' n m c d lb loff ln lc vb voff vn vc ls ps x bs w hc hx hvn hvm hv).mono ?_
    rintro e w' ⟨v, y, h1, h2, h3, h4⟩
    exact ⟨v, y, h1, h2, fun k => absurd h k, h3, h4⟩
  · refine (lessErr ao po lo vo b off b' off' n m c d lb loff ln lc vb voff vn vc ls ps x bs w hc hx hvn hvm hv h).mono ?_
    rintro e w' ⟨h1, h4⟩
    exact ⟨_, [], h1, fun k => absurd k h, fun _ => rfl, new_none _ _, h4⟩

theorem notin_any (s : ByteArray) (yb : Nat) (yo : Option Addr) (b off n c : Nat) (ys : List ByteArray) (w : World) (hy : w.cell? ⟨yb, 0, none⟩ = some (.slice yo n c)) (hl : n = ys.length) (hm : n ≤ maxLen) (ht : Strs w yo b off ys) :
    Calls Tryz.prog 13 #[.string s, .pointer (some ⟨yb, 0, none⟩)] w fun e w' => e = .returned (.bool (!Act.has ys s)) ∧ Below w.heap.size w w' := by
  have hct := contains_any yo b off n c ys s w hl hm ht
  obtain ⟨t, ht0⟩ : ∃ t, t = Act.has ys s := ⟨_, rfl⟩
  rw [← ht0] at hct ⊢
  clear hl ht ht0 hm
  go_enter Tryz.func13, Tryz.ntmps13
  go_wp2_with fail
  refine hct.mono ?_
  rintro e w1 ⟨rfl, hw⟩
  have hw' := hw.symm
  subst hw'
  go_wp2
  go_ret
  exact ⟨rfl, Below.refl _ _⟩

set_option maxRecDepth 100000 in
set_option maxHeartbeats 8000000 in
theorem law_normal (ao po xo yo vo : Option Addr) (b off b' off' n m c d xb xoff xn xc yb yoff yn yc vb voff vn vc : Nat) (mx : Int) (ls : List ByteArray) (ps : List (ByteArray × ByteArray)) (x y : List Pol) (bs : List ByteArray) (w : World) (hc : Chiefs w ao po b off b' off' n m c ls ps)
    (hx : LabAt w xo xb xoff xn xc x) (hy : LabAt w yo yb yoff yn yc y) (hvn : vn = bs.length) (hvm : vn ≤ maxLen) (hv : Strs w vo vb voff bs) (hpz : ∀ p ∈ ps, p.1.size ≤ maxLen ∧ p.2.size ≤ maxLen) (hmx : w.cell? ⟨0, 0, none⟩ = some (.int .i64 mx)) :
    Calls Tryz.prog 3 #[.slice ao n c, .slice po m d, .slice xo xn xc, .slice yo yn yc, .slice vo vn vc] w fun e w' => e = .returned (.bool true) ∧ Below w.heap.size w w' := by
  have HC : Hid (Chiefs w ao po b off b' off' n m c ls ps) := hc
  have HX : Hid (LabAt w xo xb xoff xn xc x) := hx
  have HY : Hid (LabAt w yo yb yoff yn yc y) := hy
  have HVN : Hid (vn = bs.length) := hvn
  have HVM : Hid (vn ≤ maxLen) := hvm
  have HV : Hid (Strs w vo vb voff bs) := hv
  have HPZ : Hid (∀ p ∈ ps, p.1.size ≤ maxLen ∧ p.2.size ≤ maxLen) := hpz
  have HMX : Hid (∀ W, Below w.heap.size w W → W.cell? ⟨0, 0, none⟩ = some (.int .i64 mx)) := fun W hW => (hW.cell (p := ⟨0, 0, none⟩) (World.block_lt_of_cell? w _ hmx)).trans hmx
  obtain ⟨wz, hwz⟩ : ∃ wz, wz = w.alloc (.cells #[.slice ao n c] 22) := ⟨_, rfl⟩
  have hbz : Below w.heap.size w wz := by rw [hwz]; exact (Below.refl _ _).alloc (Nat.le_refl _) _
  have kz : wz.heap[w.heap.size]? = some (.cells #[.slice ao n c] 22 (0, 0)) := by rw [hwz]; exact heap_at_alloc _ _ _ rfl
  have HBOX : Hid (∀ W, Below wz.heap.size wz W → W.cell? ⟨w.heap.size, 0, none⟩ = some (.slice ao n c) ∧ w.heap.size < W.heap.size) := fun W hW => by
    have h9 := (hW.block _ (lt_of_block kz)).trans kz
    exact ⟨by simp [World.cell?, h9], lt_of_block h9⟩
  have HBZ : Hid (Below w.heap.size w wz) := hbz
  have hmf : ∀ (fn : Fn) (first cap : Array Value) (w : World), (Instr.makeFunc fn first cap).run Tryz.prog w = .ok (.func fn first cap) w := fun _ _ _ _ => rfl
  have HCF : Hid (vn ≤ 1000 → ∀ W, Below w.heap.size w W → True) := fun _ _ _ => trivial
  have h1 := normX ao po xo b off b' off' n m c d xb xoff xn xc ls ps x wz (hc.later hbz) (hx.later hbz)
  obtain ⟨e1, he1⟩ : ∃ e1, e1 = bothL ls ps x y := ⟨_, rfl⟩
  obtain ⟨e2, he2⟩ : ∃ e2, e2 = checkL ls ps x := ⟨_, rfl⟩
  obtain ⟨e3, he3⟩ : ∃ e3, e3 = lessE ls ps x bs := ⟨_, rfl⟩
  rw [← he2] at h1
  have HE1 : Hid (bothL ls ps x y = e1) := he1.symm
  have HE2 : Hid (checkL ls ps x = e2) := he2.symm
  have HE3 : Hid (lessE ls ps x bs = e3) := he3.symm
  have HWZ : Hid (wz = w.alloc (.cells #[.slice ao n c] 22)) := hwz
  clear hc hx hy hvn hvm hv hpz hmx he1 he2 he3 hwz hbz kz HCF
  go_enter Tryz.func3, Tryz.ntmps3
  go_wp2_with fail
  rw [← HWZ.out]
  refine h1.mono ?_
  rintro e w1 ⟨v1, y1, rfl, hn1, hv1, hl1, hb1⟩
  have HBA : Hid (Below wz.heap.size wz w1) := hb1
  have HB1 : Hid (Below w.heap.size w w1) := HBZ.out.trans (hb1.mono HBZ.out.size)
  have HN1 : Hid (e2 = 0 → Lab.Norm blt plt ps x y1) := hn1
  have HV1 : Hid (e2 ≠ 0 → v1 = .slice none 0 0) := hv1
  have HL1 : Hid (LabNew w1 wz.heap.size v1 y1) := hl1
  obtain ⟨a1, c1, hs1⟩ : ∃ a1 c1, v1 = .slice a1 y1.length c1 := by obtain ⟨M, k1, k2, _⟩ := hl1; exact slice_of k2
  obtain ⟨N1, hN1⟩ : ∃ N1, N1 = y1.length := ⟨_, rfl⟩
  rw [← hN1] at hs1
  subst hs1
  have h2 := joinX ao po xo yo b off b' off' n m c d xb xoff xn xc yb yoff yn yc ls ps x y w1 (HC.out.later HB1.out) (HX.out.later HB1.out) (HY.out.later HB1.out)
  rw [HE1.out] at h2
  have x1 := (HBOX.out w1 HBA.out).1
  have lx1 := (HBOX.out w1 HBA.out).2
  clear h1 hn1 hv1 hl1 hb1 hN1 HWZ
  go_wp2_with fail
  refine h2.mono ?_
  rintro e w2 ⟨v2, y2, rfl, hn2, hv2, hl2, hb2⟩
  have HB12 : Hid (Below w1.heap.size w1 w2) := hb2
  have HBB : Hid (Below wz.heap.size wz w2) := HBA.out.trans (hb2.mono HBA.out.size)
  have HB2 : Hid (Below w.heap.size w w2) := HB1.out.trans (hb2.mono HB1.out.size)
  have HN2 : Hid (e1 = 0 → Lab.Norm blt plt ps (x ++ y) y2) := hn2
  have HV2 : Hid (e1 ≠ 0 → v2 = .slice none 0 0) := hv2
  have HL2 : Hid (LabNew w2 w1.heap.size v2 y2) := hl2
  obtain ⟨a2, c2, hs2⟩ : ∃ a2 c2, v2 = .slice a2 y2.length c2 := by obtain ⟨M, k1, k2, _⟩ := hl2; exact slice_of k2
  obtain ⟨N2, hN2⟩ : ∃ N2, N2 = y2.length := ⟨_, rfl⟩
  rw [← hN2] at hs2
  subst hs2
  have h3 := lessX ao po xo vo b off b' off' n m c d xb xoff xn xc vb voff vn vc ls ps x bs w2 (HC.out.later HB2.out) (HX.out.later HB2.out) HVN.out HVM.out (HV.out.later HB2.out)
  rw [HE3.out] at h3
  have x2 := (HBOX.out w2 HBB.out).1
  have lx2 := (HBOX.out w2 HBB.out).2
  clear h2 hn2 hv2 hl2 hb2 hN2 x1 lx1
  go_wp2_with fail
  refine h3.mono ?_
  rintro e w3 ⟨v3, y3, rfl, hn3, hv3, hl3, hb3⟩
  have HB23 : Hid (Below w2.heap.size w2 w3) := hb3
  have HB13 : Hid (Below w1.heap.size w1 w3) := HB12.out.trans (hb3.mono HB12.out.size)
  have HBC : Hid (Below wz.heap.size wz w3) := HBB.out.trans (hb3.mono HBB.out.size)
  have HB3 : Hid (Below w.heap.size w w3) := HB2.out.trans (hb3.mono HB2.out.size)
  have HN3 : Hid (e3 = 0 → Lab.Norm blt plt ps (leftF ls ps x bs) y3) := hn3
  have HV3 : Hid (e3 ≠ 0 → v3 = .slice none 0 0) := hv3
  have HL3 : Hid (LabNew w3 w2.heap.size v3 y3) := hl3
  have HL13 : Hid (LabNew w3 wz.heap.size (.slice a1 N1 c1) y1) := HL1.out.later' HB13.out
  have HL23 : Hid (LabNew w3 w1.heap.size (.slice a2 N2 c2) y2) := HL2.out.later' HB23.out
  obtain ⟨a3, c3, hs3⟩ : ∃ a3 c3, v3 = .slice a3 y3.length c3 := by obtain ⟨M, k1, k2, _⟩ := hl3; exact slice_of k2
  obtain ⟨N3, hN3⟩ : ∃ N3, N3 = y3.length := ⟨_, rfl⟩
  rw [← hN3] at hs3
  subst hs3
  have HALLB : Hid (∀ W, Below w3.heap.size w3 W → W.cell? ⟨w.heap.size, 0, none⟩ = some (.slice ao n c) ∧ Below w3.heap.size w3 W) := fun W hW => ⟨(HBOX.out W (HBC.out.trans (hW.mono HBC.out.size))).1, hW⟩
  have HBAD : Hid (∀ W sb q, Below w3.heap.size w3 W → (q = 1 ∧ W.heap[sb]? = some (.cells #[.slice xo xn xc] 25 (0, 0)) ∨ q = 2 ∧ W.heap[sb]? = some (.cells #[.slice xo xn xc, .slice yo yn yc] 25 (0, 0))) → Calls Tryz.prog 7 #[.slice ao n c, .slice po m d, .slice (some ⟨sb, 0, none⟩) q q] W fun e w' => e = .returned (.int .i64 (if q = 1 then e2 else e1)) ∧ Below W.heap.size W w' ∧ Below w3.heap.size w3 w') := fun W sb q hW hq => by
    have hWw := HB3.out.trans (hW.mono HB3.out.size)
    rcases hq with ⟨rfl, hk⟩ | ⟨rfl, hk⟩
    · have h9 := badR ao po b off b' off' n m c d sb 1 1 mx ls ps [x] W (HC.out.later hWw) HPZ.out (HMX.out W hWw) (labs_one hk (HX.out.later hWw)) (by omega)
      rw [bad_one, HE2.out] at h9
      exact h9.mono fun e w' ⟨k1, k2⟩ => ⟨by rw [if_pos rfl]; exact k1, k2, hW.trans (k2.mono hW.size)⟩
    · have h9 := badR ao po b off b' off' n m c d sb 2 2 mx ls ps [x, y] W (HC.out.later hWw) HPZ.out (HMX.out W hWw) (labs_two hk (HX.out.later hWw) (HY.out.later hWw)) (by omega)
      rw [bad_two, HE1.out] at h9
      exact h9.mono fun e w' ⟨k1, k2⟩ => ⟨by rw [if_neg (by omega)]; exact k1, k2, hW.trans (k2.mono hW.size)⟩
  have x3 := (HBOX.out w3 HBC.out).1
  have lx3 := (HBOX.out w3 HBC.out).2
  clear h3 hn3 hv3 hl3 hb3 hN3 x2 lx2 HL1 HL2
  go_wp2
  go_cut [17, 18] (fun s17 s18 wc => s17 = .int .i64 e2 ∧ s18 = .int .i64 e1 ∧ Hid (Below w3.heap.size w3 wc))
  case first =>
    go_region_held3 (fun w' => w'.cell? ⟨w.heap.size, 0, none⟩ = some (.slice ao n c) ∧ Below w3.heap.size w3 w')
      ((refine HALLB.out _ ?_; repeat (first | exact Below.refl _ _ | assumption | refine below_alloc' ?_ _ | refine below_drew' ?_)))
      (first
        | (go_at_call 7; refine (HBAD.out _ _ _ (by repeat (first | exact Below.refl _ _ | assumption | refine below_alloc' ?_ _ | refine below_drew' ?_)) (by first | exact .inl ⟨rfl, heap_at_alloc _ _ _ (by simp)⟩ | exact .inr ⟨rfl, heap_at_alloc _ _ _ (by simp)⟩ | exact .inl ⟨rfl, heap_past_alloc (heap_at_alloc _ _ _ (by simp))⟩ | exact .inr ⟨rfl, heap_past_alloc (heap_at_alloc _ _ _ (by simp))⟩ | exact .inl ⟨rfl, (hb4.block _ (by simp)).trans (heap_at_alloc _ _ _ (by simp))⟩ | exact .inr ⟨rfl, (hb4.block _ (by simp)).trans (heap_at_alloc _ _ _ (by simp))⟩ | exact .inl ⟨rfl, (hb4.block _ (by simp; omega)).trans (heap_past_alloc (heap_at_alloc _ _ _ (by simp)))⟩ | exact .inr ⟨rfl, (hb4.block _ (by simp; omega)).trans (heap_past_alloc (heap_at_alloc _ _ _ (by simp)))⟩)).mono ?_; rintro e w4 ⟨rfl, hb4, hw4⟩))
    all_goals (try go_wp2_with fail)
    all_goals go_meet
    all_goals exact ⟨rfl, rfl, hw4⟩
  case rest =>
    obtain ⟨rfl, rfl, HB34⟩ := hcut
    have HBD : Hid (Below w.heap.size w wc) := HB3.out.trans (HB34.out.mono HB3.out.size)
    clear x3 lx3 HBAD HALLB HPZ HMX
    go_wp2_with fail
    refine (labelled_any _).mono ?_
    rintro e w5 ⟨rfl, hb5⟩
    have HB35 : Hid (Below w3.heap.size w3 w5) := HB34.out.trans (hb5.mono HB34.out.size)
    have HB5 : Hid (Below w.heap.size w w5) := HBD.out.trans (hb5.mono HBD.out.size)
    clear hb5 HB34 HBD
    have bself : ∀ e : Int, (e != e) = false := by simp
    have beq : ∀ e : Int, (e == e) = true := by simp
    by_cases g2 : e2 = 0
    · have HG2 : Hid (checkL ls ps x = 0) := HE2.out.trans g2
      have HZ : Hid (checkF ls ps = 0) := (checkL_ok HG2.out).1
      have HY1 : Hid (Lab.Norm blt plt ps x y1) := HN1.out g2
      have HCF : Hid (vn ≤ 1000 → ∀ W, Below w.heap.size w W → Below w3.heap.size w3 W → Calls Tryz.prog 12 #[.slice vo vn vc, .func (.func 13) #[] #[.pointer (some ⟨w.heap.size, 0, none⟩)]] W fun e w' => e = .returned (.bool (bs.any fun s => !Act.has ls s)) ∧ Below W.heap.size W w') := fun hvm W hW hW3 =>
        containsFuncS 13 #[.pointer (some ⟨w.heap.size, 0, none⟩)] (enters_of Tryz.func13 (by kernel_rfl) rfl) (fun s => !Act.has ls s) vo vb voff vn vc bs W HVN.out hvm (HV.out.later hW) (fun W' s _ hW' => by
          have hww := hW.trans (hW'.mono hW.size)
          have hw3 := hW3.trans (hW'.mono hW3.size)
          exact notin_any s w.heap.size ao b off n c ls W' (HBOX.out W' (HBC.out.trans (hw3.mono HBC.out.size))).1 (HC.out.later hww).ln (HC.out.later hww).mn (HC.out.later hww).strs)
      have hno := normalOf po xo b' off' m d xb xoff xn xc ls ps x w5 (pairs_of (HC.out.later HB5.out) HZ.out) (right_of HZ.out).2.2.1 HX.out.ln (by have h8 := (checkL_ok HG2.out).2.1; have h9 := HX.out.ln; omega) (HX.out.later HB5.out).pols (checkL_ok HG2.out).2.2.1 (right_of HZ.out).2.2.2 (checkL_ok HG2.out).2.2.2
      have hxn : xn ≤ 200 := by have h8 := (checkL_ok HG2.out).2.1; have h9 := HX.out.ln; omega
      subst g2
      clear HN1 HV1 HE2
      go_wp2_with fail
      refine hno.mono ?_
      rintro e w6 ⟨v6, y6, rfl, hn6, hl6, hb6⟩
      have e6 : y6 = y1 := Lab.norm_unique plt_order hn6 HY1.out
      subst e6
      have HB6 : Hid (Below w.heap.size w w6) := HB5.out.trans (hb6.mono HB5.out.size)
      have HB36 : Hid (Below w3.heap.size w3 w6) := HB35.out.trans (hb6.mono HB35.out.size)
      obtain ⟨_, _, c6, s6⟩ := norm_facts HZ.out (checkL_ok HG2.out).2.2.1 (checkL_ok HG2.out).2.2.2 hn6
      have hsame := same_new (HL13.out.later' HB36.out) hl6 s6 (by have := (checkL_ok c6).2.1; omega)
      clear hn6 hl6 hb6 hno c6 s6 HB35 HB5
      go_wp2_with fail
      refine hsame.mono ?_
      rintro e w7 ⟨rfl, hb7⟩
      have HB7 : Hid (Below w.heap.size w w7) := HB6.out.trans (hb7.mono HB6.out.size)
      have HB37 : Hid (Below w3.heap.size w3 w7) := HB36.out.trans (hb7.mono HB36.out.size)
      clear hb7 hsame HB6 HB36 HY1 HL13
      by_cases g1 : e1 = 0
      · have HG1 : Hid (bothL ls ps x y = 0) := HE1.out.trans g1
        have HCY : Hid (checkF ls ps = 0 ∧ y.length ≤ 200 ∧ Lab.OfL ls y ∧ ∀ p ∈ y, p.2.length ≤ 6) := checkL_ok (both_ok HG1.out).2
        have HY2 : Hid (Lab.Norm blt plt ps (x ++ y) y2) := HN2.out g1
        obtain ⟨wk, hwk⟩ : ∃ wk, wk = w7.alloc (.cells #[.slice xo xn xc, .slice yo yn yc] 25) := ⟨_, rfl⟩
        have hbk : Below w7.heap.size w7 wk := by rw [hwk]; exact (Below.refl _ _).alloc (Nat.le_refl _) _
        have k0 : wk.heap[w7.heap.size]? = some (.cells #[.slice xo xn xc, .slice yo yn yc] 25 (0, 0)) := by rw [hwk]; exact heap_at_alloc _ _ _ rfl
        have HBK : Hid (Below w.heap.size w wk) := HB7.out.trans (hbk.mono HB7.out.size)
        have HB3K : Hid (Below w3.heap.size w3 wk) := HB37.out.trans (hbk.mono HB37.out.size)
        obtain ⟨L1, hL1, hp1⟩ := prow_of (HX.out.later HBK.out).pols
        obtain ⟨L2, hL2, hp2⟩ := prow_of (HY.out.later HBK.out).pols
        have l1 : xn = L1.length := by have := HX.out.ln; rw [← hL1, List.length_map] at this; exact this
        have l2 : yn = L2.length := by have := HY.out.ln; rw [← hL2, List.length_map] at this; exact this
        have b1 : L1.length ≤ 200 := by omega
        have b2 : L2.length ≤ 200 := by have := HCY.out.2.1; rw [← hL2, List.length_map] at this; exact this
        have hcat := concatN w7.heap.size xo yo xb xoff yb yoff xn yn xc yc L1 L2 wk l1 l2 (by omega) (by simp [World.cell?, k0]) (by simp [World.cell?, k0]) (lt_of_block k0) hp1 hp2
        have HRDK : Hid (∀ z ∈ L1 ++ L2, ReadersAt wk z.2 z.1.2) := fun z hz => (List.mem_append.1 hz).elim (hp1.rd z) (hp2.rd z)
        have HMAP : Hid ((L1 ++ L2).map (·.1) = x ++ y) := by show _ = _; rw [List.map_append, hL1, hL2]
        have HLEN : Hid ((L1 ++ L2).length ≤ 400) := by show _ ≤ _; rw [List.length_append]; omega
        have HWK : Hid (wk = w7.alloc (.cells #[.slice xo xn xc, .slice yo yn yc] 25)) := hwk
        obtain ⟨LL, hLL⟩ : ∃ LL, LL = L1 ++ L2 := ⟨_, rfl⟩
        rw [← hLL] at hcat HRDK HMAP HLEN
        subst g1
        clear hwk hbk k0 hL1 hL2 hp1 hp2 l1 l2 b1 b2 hLL HN2 HV2 HE1
        go_wp2_with fail
        rw [← HWK.out]
        refine hcat.mono ?_
        rintro e w8 ⟨v8, rfl, ho8, hb8⟩
        obtain ⟨co, cc, hv8⟩ := slice_of ho8
        obtain ⟨cn, hcn⟩ : ∃ cn, cn = LL.length := ⟨_, rfl⟩
        rw [← hcn] at hv8 ho8
        subst hv8
        have HB8 : Hid (Below w.heap.size w w8) := HBK.out.trans (hb8.mono HBK.out.size)
        have HB38 : Hid (Below w3.heap.size w3 w8) := HB3K.out.trans (hb8.mono HB3K.out.size)
        obtain ⟨cb, coff, hpc⟩ := pols_own hcn ho8 (fun z hz => (HRDK.out z hz).later hb8)
        have hofz : Lab.OfL ls (x ++ y) := fun p hp => (List.mem_append.1 hp).elim ((checkL_ok HG2.out).2.2.1 p) (HCY.out.2.2.1 p)
        have h6z : ∀ p ∈ x ++ y, p.2.length ≤ 6 := fun p hp => (List.mem_append.1 hp).elim ((checkL_ok HG2.out).2.2.2 p) (HCY.out.2.2.2 p)
        have hno := normalOf po co b' off' m d cb coff cn cc ls ps (LL.map (·.1)) w8 (pairs_of (HC.out.later HB8.out) HZ.out) (right_of HZ.out).2.2.1 (by rw [List.length_map]; exact hcn) (by have := HLEN.out; omega) hpc (by rw [HMAP.out]; exact hofz) (right_of HZ.out).2.2.2 (by rw [HMAP.out]; exact h6z)
        rw [HMAP.out] at hno
        clear hcat ho8 hb8 hpc hcn HWK HRDK
        go_wp2_with fail
        refine hno.mono ?_
        rintro e wA ⟨vA, yA, rfl, hnA, hlA, hbA⟩
        have eA : yA = y2 := Lab.norm_unique plt_order hnA HY2.out
        subst eA
        have HBA' : Hid (Below w.heap.size w wA) := HB8.out.trans (hbA.mono HB8.out.size)
        have HB3A : Hid (Below w3.heap.size w3 wA) := HB38.out.trans (hbA.mono HB38.out.size)
        obtain ⟨_, _, cA, sA⟩ := norm_facts HZ.out hofz h6z hnA
        have hsame := same_new (HL23.out.later' HB3A.out) hlA sA (by have := (checkL_ok cA).2.1; omega)
        clear hnA hlA hbA hno cA sA hofz h6z
        go_wp2_with fail
        refine hsame.mono ?_
        rintro e wB ⟨rfl, hbB⟩
        have HBB' : Hid (Below w.heap.size w wB) := HBA'.out.trans (hbB.mono HBA'.out.size)
        have HB3B : Hid (Below w3.heap.size w3 wB) := HB3A.out.trans (hbB.mono HB3A.out.size)
        clear hbB hsame
        by_cases g6 : 6 < vn
        · have z6 : (6 : Int) < (vn : Int) := by omega
          have q3 : e3 = 2 := by rw [← HE3.out]; simp only [lessE, HG2.out, if_true]; unfold amongF; rw [if_pos (by have := HVN.out; omega)]
          have hv9 := HV3.out (by rw [q3]; decide)
          injection hv9 with hv9a hv9b hv9c
          subst hv9a hv9b hv9c
          subst q3
          go_wp2
          go_ret
          exact ⟨rfl, HBB'.out⟩
        · have z6 : ¬ ((6 : Int) < (vn : Int)) := by omega
          have hcf := HCF.out (by omega) wB HBB'.out HB3B.out
          obtain ⟨t, ht⟩ : ∃ t, t = bs.any fun s => !Act.has ls s := ⟨_, rfl⟩
          rw [← ht] at hcf
          cases t with
          | true =>
            have q3 : e3 = 5 := by
              obtain ⟨s, hs1, hs2⟩ := List.any_eq_true.1 ht.symm
              rw [← HE3.out]; simp only [lessE, HG2.out, if_true]
              exact among_who (by have := HVN.out; omega) hs1 (Act.has_not.1 (by simpa using hs2))
            have hv9 := HV3.out (by rw [q3]; decide)
            injection hv9 with hv9a hv9b hv9c
            subst hv9a hv9b hv9c
            subst q3
            clear ht
            go_wp2_with fail
            refine hcf.mono ?_
            rintro e w9 ⟨rfl, hb9⟩
            have HB9 : Hid (Below w.heap.size w w9) := HBB'.out.trans (hb9.mono HBB'.out.size)
            clear hb9 hcf
            go_wp2
            go_ret
            exact ⟨rfl, HB9.out⟩
          | false =>
            have hall : ∀ s ∈ bs, s ∈ ls := fun s hs => by
              have h9 := List.any_eq_false.1 ht.symm s hs
              exact Act.has_iff.1 (by simpa using h9)
            have q3 : e3 = 0 := by
              rw [← HE3.out]; simp only [lessE, HG2.out, if_true]
              exact among_of (by have := HVN.out; omega) hall
            have HALL : Hid (∀ s ∈ bs, s ∈ ls) := hall
            have HY3 : Hid (Lab.Norm blt plt ps (leftF ls ps x bs) y3) := HN3.out q3
            subst q3
            clear ht hall
            go_wp2_with fail
            refine hcf.mono ?_
            rintro e w9 ⟨rfl, hb9⟩
            have HB9 : Hid (Below w.heap.size w w9) := HBB'.out.trans (hb9.mono HBB'.out.size)
            have HB39 : Hid (Below w3.heap.size w3 w9) := HB3B.out.trans (hb9.mono HB3B.out.size)
            clear hb9 hcf
            have hlo := lessOf po xo vo b' off' m d xb xoff xn xc vb voff vn vc ls ps x bs w9 (pairs_of (HC.out.later HB9.out) HZ.out) (right_of HZ.out).2.2.1 HX.out.ln (by have h8 := (checkL_ok HG2.out).2.1; have h9 := HX.out.ln; omega) (HX.out.later HB9.out).pols (checkL_ok HG2.out).2.2.1 (right_of HZ.out).2.2.2 (checkL_ok HG2.out).2.2.2 HVN.out (by omega) (HV.out.later HB9.out) HALL.out
            go_wp2_with fail
            refine hlo.mono ?_
            rintro e w10 ⟨v10, y10, rfl, hn10, hl10, hb10⟩
            have e10 : y10 = y3 := Lab.norm_unique plt_order hn10 HY3.out
            subst e10
            have HB10 : Hid (Below w.heap.size w w10) := HB9.out.trans (hb10.mono HB9.out.size)
            have hsub : Lab.OfL ls (leftF ls ps x bs) ∧ ∀ p ∈ leftF ls ps x bs, p.2.length ≤ 6 := ⟨fun p hp => (checkL_ok HG2.out).2.2.1 p (List.mem_filter.1 hp).1, fun p hp => (checkL_ok HG2.out).2.2.2 p (List.mem_filter.1 hp).1⟩
            obtain ⟨_, _, c9, s9⟩ := norm_facts HZ.out hsub.1 hsub.2 hn10
            have hsame := same_new ((HL3.out.later' HB39.out).later' hb10) hl10 s9 (by have := (checkL_ok c9).2.1; omega)
            clear hn10 hl10 hb10 hlo hsub c9 s9
            go_wp2_with fail
            refine hsame.mono ?_
            rintro e w11 ⟨rfl, hb11⟩
            have HB11 : Hid (Below w.heap.size w w11) := HB10.out.trans (hb11.mono HB10.out.size)
            clear hb11 hsame
            go_wp2
            go_ret
            exact ⟨rfl, HB11.out⟩
      · have bn1 : (e1 == 0) = false := by simp [g1]
        have bb1 : (e1 != 0) = true := by simp [g1]
        have hv9 := HV2.out g1
        injection hv9 with hv9a hv9b hv9c
        subst hv9a hv9b hv9c
        clear HN2 HV2 HE1 g1
        by_cases g6 : 6 < vn
        · have z6 : (6 : Int) < (vn : Int) := by omega
          have q3 : e3 = 2 := by rw [← HE3.out]; simp only [lessE, HG2.out, if_true]; unfold amongF; rw [if_pos (by have := HVN.out; omega)]
          have hv9 := HV3.out (by rw [q3]; decide)
          injection hv9 with hv9a hv9b hv9c
          subst hv9a hv9b hv9c
          subst q3
          go_wp2
          go_ret
          exact ⟨rfl, HB7.out⟩
        · have z6 : ¬ ((6 : Int) < (vn : Int)) := by omega
          have hcf := HCF.out (by omega) w7 HB7.out HB37.out
          obtain ⟨t, ht⟩ : ∃ t, t = bs.any fun s => !Act.has ls s := ⟨_, rfl⟩
          rw [← ht] at hcf
          cases t with
          | true =>
            have q3 : e3 = 5 := by
              obtain ⟨s, hs1, hs2⟩ := List.any_eq_true.1 ht.symm
              rw [← HE3.out]; simp only [lessE, HG2.out, if_true]
              exact among_who (by have := HVN.out; omega) hs1 (Act.has_not.1 (by simpa using hs2))
            have hv9 := HV3.out (by rw [q3]; decide)
            injection hv9 with hv9a hv9b hv9c
            subst hv9a hv9b hv9c
            subst q3
            clear ht
            go_wp2_with fail
            refine hcf.mono ?_
            rintro e w9 ⟨rfl, hb9⟩
            have HB9 : Hid (Below w.heap.size w w9) := HB7.out.trans (hb9.mono HB7.out.size)
            clear hb9 hcf
            go_wp2
            go_ret
            exact ⟨rfl, HB9.out⟩
          | false =>
            have hall : ∀ s ∈ bs, s ∈ ls := fun s hs => by
              have h9 := List.any_eq_false.1 ht.symm s hs
              exact Act.has_iff.1 (by simpa using h9)
            have q3 : e3 = 0 := by
              rw [← HE3.out]; simp only [lessE, HG2.out, if_true]
              exact among_of (by have := HVN.out; omega) hall
            have HALL : Hid (∀ s ∈ bs, s ∈ ls) := hall
            have HY3 : Hid (Lab.Norm blt plt ps (leftF ls ps x bs) y3) := HN3.out q3
            subst q3
            clear ht hall
            go_wp2_with fail
            refine hcf.mono ?_
            rintro e w9 ⟨rfl, hb9⟩
            have HB9 : Hid (Below w.heap.size w w9) := HB7.out.trans (hb9.mono HB7.out.size)
            have HB39 : Hid (Below w3.heap.size w3 w9) := HB37.out.trans (hb9.mono HB37.out.size)
            clear hb9 hcf
            have hlo := lessOf po xo vo b' off' m d xb xoff xn xc vb voff vn vc ls ps x bs w9 (pairs_of (HC.out.later HB9.out) HZ.out) (right_of HZ.out).2.2.1 HX.out.ln (by have h8 := (checkL_ok HG2.out).2.1; have h9 := HX.out.ln; omega) (HX.out.later HB9.out).pols (checkL_ok HG2.out).2.2.1 (right_of HZ.out).2.2.2 (checkL_ok HG2.out).2.2.2 HVN.out (by omega) (HV.out.later HB9.out) HALL.out
            go_wp2_with fail
            refine hlo.mono ?_
            rintro e w10 ⟨v10, y10, rfl, hn10, hl10, hb10⟩
            have e10 : y10 = y3 := Lab.norm_unique plt_order hn10 HY3.out
            subst e10
            have HB10 : Hid (Below w.heap.size w w10) := HB9.out.trans (hb10.mono HB9.out.size)
            have hsub : Lab.OfL ls (leftF ls ps x bs) ∧ ∀ p ∈ leftF ls ps x bs, p.2.length ≤ 6 := ⟨fun p hp => (checkL_ok HG2.out).2.2.1 p (List.mem_filter.1 hp).1, fun p hp => (checkL_ok HG2.out).2.2.2 p (List.mem_filter.1 hp).1⟩
            obtain ⟨_, _, c9, s9⟩ := norm_facts HZ.out hsub.1 hsub.2 hn10
            have hsame := same_new ((HL3.out.later' HB39.out).later' hb10) hl10 s9 (by have := (checkL_ok c9).2.1; omega)
            clear hn10 hl10 hb10 hlo hsub c9 s9
            go_wp2_with fail
            refine hsame.mono ?_
            rintro e w11 ⟨rfl, hb11⟩
            have HB11 : Hid (Below w.heap.size w w11) := HB10.out.trans (hb11.mono HB10.out.size)
            clear hb11 hsame
            go_wp2
            go_ret
            exact ⟨rfl, HB11.out⟩
    · have bn : (e2 == 0) = false := by simp [g2]
      have bb : (e2 != 0) = true := by simp [g2]
      have q1 : e1 = e2 := by
        rw [← HE1.out, ← HE2.out]
        unfold bothL
        rw [if_neg (by rw [HE2.out]; exact g2)]
      have q3 : e3 = e2 := by
        rw [← HE3.out, ← HE2.out]
        unfold lessE
        rw [if_neg (by rw [HE2.out]; exact g2)]
      have hv7 := HV1.out g2
      have hv8 := HV2.out (by rw [q1]; exact g2)
      have hv9 := HV3.out (by rw [q3]; exact g2)
      injection hv7 with ha1 hn1 hc1
      injection hv8 with ha2 hn2 hc2
      injection hv9 with ha3 hn3 hc3
      subst ha1 hn1 hc1 ha2 hn2 hc2 ha3 hn3 hc3
      subst q1 q3
      go_wp2
      go_ret
      exact ⟨rfl, HB5.out⟩
end Go.Proofs.YtjfiakoningmkaaGreatDoor
