/- Contracts of view.eye and of the three functions that it makes. -/
import Derived.Test.YtfhpmnghakhlkaaDoorBlwC
import Derived.Test.YtfhpmnghakhlkaaDoorLabK
import Derived.Test.YtfhpmnghakhlkaaDoorFnP
import Derived.Shelf.Abstract
import Derived.Laws.EntriesVeiled
namespace Go.Proofs.YtfhpmnghakhlkaaDoor
open Go.RowKit

def hidesF (mine : List ByteArray) (p : Pol) : Bool := !Act.has mine p.1 && !(p.2.any fun s => Act.has mine s)
def seesE (ls : List ByteArray) (ps : List (ByteArray × ByteArray)) (who : ByteArray) (x : List Pol) : Int := if checkL ls ps x = 0 then (if Act.has ls who = true then 0 else 5) else checkL ls ps x
def seesV (ls : List ByteArray) (ps : List (ByteArray × ByteArray)) (who : ByteArray) (x : List Pol) : Bool := decide (seesE ls ps who x = 0) && !(x.any fun p => hidesF (mineF ls ps who) p)
theorem mine_mem {ls : List ByteArray} {ps : List (ByteArray × ByteArray)} {who : ByteArray} (h : checkF ls ps = 0) (hw : who ∈ ls) {s : ByteArray} : s ∈ mineF ls ps who ↔ s ∈ ls ∧ Act.Way ps who s := by
  obtain ⟨_, _, hr, _⟩ := right_of h
  unfold mineF
  rw [if_pos ⟨h, Act.has_iff.2 hw⟩, List.mem_filter]
  exact ⟨fun ⟨h1, h2⟩ => ⟨h1, (Act.acts_iff hr hw h1).1 h2⟩, fun ⟨h1, h2⟩ => ⟨h1, (Act.acts_iff hr hw h1).2 h2⟩⟩
theorem seesE_zero {ls : List ByteArray} {ps : List (ByteArray × ByteArray)} {who : ByteArray} {x : List Pol} (h : seesE ls ps who x = 0) : checkL ls ps x = 0 ∧ who ∈ ls := by
  unfold seesE at h
  split at h
  · rename_i h0
    split at h
    · rename_i h1; exact ⟨h0, Act.has_iff.1 h1⟩
    · cases h
  · rename_i h0; exact absurd h h0
theorem sees_iff {ls : List ByteArray} {ps : List (ByteArray × ByteArray)} {who : ByteArray} {x : List Pol} (h : seesE ls ps who x = 0) : seesV ls ps who x = true ↔ Lab.reads ps x who := by
  obtain ⟨h1, hw⟩ := seesE_zero h
  obtain ⟨h0, _, g1, _⟩ := checkL_ok h1
  have key : ∀ p ∈ x, hidesF (mineF ls ps who) p = false ↔ Lab.lets ps p who := by
    intro p hp
    obtain ⟨ho, hr⟩ := g1 p hp
    unfold hidesF Lab.lets
    rw [Bool.and_eq_false_iff]
    simp only [Bool.not_eq_false']
    constructor
    · rintro (h2 | h2)
      · exact .inl ((mine_mem h0 hw).1 (Act.has_iff.1 h2)).2
      · obtain ⟨s, hs, h3⟩ := List.any_eq_true.1 h2
        exact .inr ⟨s, hs, ((mine_mem h0 hw).1 (Act.has_iff.1 h3)).2⟩
    · rintro (h2 | ⟨s, hs, h3⟩)
      · exact .inl (Act.has_iff.2 ((mine_mem h0 hw).2 ⟨ho, h2⟩))
      · exact .inr (List.any_eq_true.2 ⟨s, hs, Act.has_iff.2 ((mine_mem h0 hw).2 ⟨hr s hs, h3⟩)⟩)
  unfold seesV Lab.reads
  rw [h, decide_eq_true rfl, Bool.true_and, Bool.not_eq_true', List.any_eq_false]
  constructor
  · intro h2 p hp
    exact (key p hp).1 (by simpa using h2 p hp)
  · intro h2 p hp
    simpa using (key p hp).2 (h2 p hp)

/- The function that eye answers, and what it holds. -/
structure EyeIs (w : World) (v : Value) (S M : Nat) (ao po : Option Addr) (n m c d : Nat) (who : ByteArray) (mine : List ByteArray) : Prop where
  vis : v = .func (.func 33) #[] #[.pointer (some ⟨S, 0, none⟩), .pointer (some ⟨S + 1, 0, none⟩), .pointer (some ⟨S + 2, 0, none⟩), .pointer (some ⟨M + 2, 0, none⟩)]
  b0 : w.heap[S]? = some (.cells #[.slice ao n c] 22 (0, 0))
  b1 : w.heap[S + 1]? = some (.cells #[.slice po m d] 23 (0, 0))
  b2 : w.heap[S + 2]? = some (.cells #[.string who] 9 (0, 0))
  m1 : w.heap[M + 1]? = some (.cells #[.func (.func 30) #[] #[.pointer (some ⟨M, 0, none⟩)]] 64 (0, 0))
  m2 : w.heap[M + 2]? = some (.cells #[.func (.func 31) #[] #[.pointer (some ⟨M + 1, 0, none⟩)]] 71 (0, 0))
  m0 : ∃ mo mb mc, w.heap[M]? = some (.cells #[.slice mo mine.length mc] 22 (0, 0)) ∧ Strs w mo mb 0 mine
  few : mine.length ≤ 6
theorem EyeIs.later {w w' : World} {v : Value} {S M : Nat} {ao po : Option Addr} {n m c d : Nat} {who : ByteArray} {mine : List ByteArray} (h : EyeIs w v S M ao po n m c d who mine) (hb : Below w.heap.size w w') : EyeIs w' v S M ao po n m c d who mine := by
  obtain ⟨mo, mb, mc, h1, h2⟩ := h.m0
  exact ⟨h.vis, (hb.block _ (lt_of_block h.b0)).trans h.b0, (hb.block _ (lt_of_block h.b1)).trans h.b1, (hb.block _ (lt_of_block h.b2)).trans h.b2, (hb.block _ (lt_of_block h.m1)).trans h.m1, (hb.block _ (lt_of_block h.m2)).trans h.m2, ⟨mo, mb, mc, (hb.block _ (lt_of_block h1)).trans h1, h2.later hb⟩, h.few⟩

set_option maxHeartbeats 1000000 in
theorem eyeC (ao po : Option Addr) (b off b' off' n m c d : Nat) (ls : List ByteArray) (ps : List (ByteArray × ByteArray)) (who : ByteArray) (w : World) (hc : Chiefs w ao po b off b' off' n m c ls ps) :
    Calls Tryd.prog 21 #[.slice ao n c, .slice po m d, .string who] w fun e w' => ∃ v S M, e = .returned v ∧ EyeIs w' v S M ao po n m c d who (mineF ls ps who) ∧ Below w.heap.size w w' := by
  have hmf : ∀ (fn : Fn) (first cap : Array Value) (w : World), (Instr.makeFunc fn first cap).run Tryd.prog w = .ok (.func fn first cap) w := fun _ _ _ _ => rfl
  obtain ⟨wz, hwz⟩ : ∃ wz, wz = ((w.alloc (.cells #[.slice ao n c] 22)).alloc (.cells #[.slice po m d] 23)).alloc (.cells #[.string who] 9) := ⟨_, rfl⟩
  have hbz : Below w.heap.size w wz := by rw [hwz]; exact (((Below.refl _ _).alloc (Nat.le_refl _) _).alloc (by simp) _).alloc (by simp; omega) _
  have k0 : wz.heap[w.heap.size]? = some (.cells #[.slice ao n c] 22 (0, 0)) := by rw [hwz]; exact heap_past_alloc (heap_past_alloc (heap_at_alloc _ _ _ rfl))
  have k1 : wz.heap[w.heap.size + 1]? = some (.cells #[.slice po m d] 23 (0, 0)) := by rw [hwz]; exact heap_past_alloc (heap_at_alloc _ _ _ (by simp))
  have k2 : wz.heap[w.heap.size + 2]? = some (.cells #[.string who] 9 (0, 0)) := by rw [hwz]; exact heap_at_alloc _ _ _ (by simp)
  have hcall := belowC ao po b off b' off' n m c d ls ps who wz (hc.later hbz)
  have HBZ : Hid (Below w.heap.size w wz) := hbz
  have K0 : Hid (wz.heap[w.heap.size]? = some (.cells #[.slice ao n c] 22 (0, 0))) := k0
  have K1 : Hid (wz.heap[w.heap.size + 1]? = some (.cells #[.slice po m d] 23 (0, 0))) := k1
  have K2 : Hid (wz.heap[w.heap.size + 2]? = some (.cells #[.string who] 9 (0, 0))) := k2
  have HWZ : Hid (wz = ((w.alloc (.cells #[.slice ao n c] 22)).alloc (.cells #[.slice po m d] 23)).alloc (.cells #[.string who] 9)) := hwz
  clear hc hbz hwz k0 k1 k2
  go_enter Tryd.func21, Tryd.ntmps21
  go_wp2_with fail
  rw [← HWZ.out]
  refine hcall.mono ?_
  rintro e w1 ⟨v, rfl, hown, hb1⟩
  obtain ⟨mo, mb, mc, hv, _, _, ss⟩ := strs_of_own hown
  subst hv
  have HSS : Hid (Strs w1 mo mb 0 (mineF ls ps who)) := ss
  have HB1 : Hid (Below wz.heap.size wz w1) := hb1
  clear hown hb1 ss hcall HWZ
  obtain ⟨N, hN⟩ : ∃ N, N = (mineF ls ps who).length := ⟨_, rfl⟩
  rw [← hN]
  have HN : Hid (N = (mineF ls ps who).length) := hN
  clear hN
  go_wp2
  go_ret
  obtain ⟨w2, hw2⟩ : ∃ w2, w2 = w1.alloc (.cells #[.slice mo N mc] 22) := ⟨_, rfl⟩
  obtain ⟨w3, hw3⟩ : ∃ w3, w3 = w2.alloc (.cells #[.func (.func 30) #[] #[.pointer (some ⟨w1.heap.size, 0, none⟩)]] 64) := ⟨_, rfl⟩
  obtain ⟨w4, hw4⟩ : ∃ w4, w4 = w3.alloc (.cells #[.func (.func 31) #[] #[.pointer (some ⟨w1.heap.size + 1, 0, none⟩)]] 71) := ⟨_, rfl⟩
  have s2 : w2.heap.size = w1.heap.size + 1 := by rw [hw2]; simp
  have s3 : w3.heap.size = w1.heap.size + 2 := by rw [hw3]; simp [s2]
  have hb2 : Below w1.heap.size w1 w2 := by rw [hw2]; exact (Below.refl _ _).alloc (Nat.le_refl _) _
  have hb3 : Below w2.heap.size w2 w3 := by rw [hw3]; exact (Below.refl _ _).alloc (Nat.le_refl _) _
  have hb4 : Below w3.heap.size w3 w4 := by rw [hw4]; exact (Below.refl _ _).alloc (Nat.le_refl _) _
  have hb14 : Below w1.heap.size w1 w4 := (hb2.trans (hb3.mono hb2.size)).trans (hb4.mono (by omega))
  have j0 : w4.heap[w1.heap.size]? = some (.cells #[.slice mo N mc] 22 (0, 0)) := by rw [hw4, hw3, hw2]; exact heap_past_alloc (heap_past_alloc (heap_at_alloc _ _ _ rfl))
  have j1 : w4.heap[w1.heap.size + 1]? = some (.cells #[.func (.func 30) #[] #[.pointer (some ⟨w1.heap.size, 0, none⟩)]] 64 (0, 0)) := by rw [hw4, hw3]; exact heap_past_alloc (heap_at_alloc _ _ _ (by omega))
  have j2 : w4.heap[w1.heap.size + 2]? = some (.cells #[.func (.func 31) #[] #[.pointer (some ⟨w1.heap.size + 1, 0, none⟩)]] 71 (0, 0)) := by rw [hw4]; exact heap_at_alloc _ _ _ (by omega)
  have hbz4 : Below wz.heap.size wz w4 := HB1.out.trans (hb14.mono HB1.out.size)
  have l0 := lt_of_block K0.out
  have l1 := lt_of_block K1.out
  have l2 := lt_of_block K2.out
  have hE : EyeIs w4 (.func (.func 33) #[] #[.pointer (some ⟨w.heap.size, 0, none⟩), .pointer (some ⟨w.heap.size + 1, 0, none⟩), .pointer (some ⟨w.heap.size + 2, 0, none⟩), .pointer (some ⟨w1.heap.size + 2, 0, none⟩)]) w.heap.size w1.heap.size ao po n m c d who (mineF ls ps who) :=
    ⟨rfl, (hbz4.block _ l0).trans K0.out, (hbz4.block _ l1).trans K1.out, (hbz4.block _ l2).trans K2.out, j1, j2, ⟨mo, mb, mc, by rw [← HN.out]; exact j0, HSS.out.later hb14⟩, mine_len ls ps who⟩
  have hbe : Below w.heap.size w w4 := HBZ.out.trans (hbz4.mono HBZ.out.size)
  rw [hw4, hw3, hw2] at hE hbe
  exact ⟨_, w.heap.size, w1.heap.size, rfl, hE, hbe⟩

set_option maxHeartbeats 1000000 in
theorem isMineC (M : Nat) (s : ByteArray) (mine : List ByteArray) (mo : Option Addr) (mb mc : Nat) (w : World) (h : w.heap[M]? = some (.cells #[.slice mo mine.length mc] 22 (0, 0))) (hs : Strs w mo mb 0 mine) (h6 : mine.length ≤ 6) :
    Calls Tryd.prog 30 #[.string s, .pointer (some ⟨M, 0, none⟩)] w fun e w' => e = .returned (.bool (Act.has mine s)) ∧ w' = w := by
  have c0 : w.cell? ⟨M, 0, none⟩ = some (.slice mo mine.length mc) := by simp [World.cell?, h]
  have hcall := contains_any mo mb 0 mine.length mc mine s w rfl (by unfold maxLen; omega) hs
  obtain ⟨N, hN⟩ : ∃ N, N = mine.length := ⟨_, rfl⟩
  rw [← hN] at hcall c0
  obtain ⟨t, ht⟩ : ∃ t, t = Act.has mine s := ⟨_, rfl⟩
  rw [← ht] at hcall ⊢
  clear h hs h6 hN ht
  go_enter Tryd.func30, Tryd.ntmps30
  go_wp2_with fail
  refine hcall.mono ?_
  rintro e w1 ⟨rfl, hw⟩
  have hw' := hw.symm
  subst hw'
  go_wp2
  go_ret
  exact ⟨rfl, rfl⟩

set_option maxHeartbeats 2000000 in
theorem hidesC (S M : Nat) (v pv : Value) (p : Pol) (ao po : Option Addr) (n m c d : Nat) (who : ByteArray) (mine : List ByteArray) (w : World) (h : EyeIs w v S M ao po n m c d who mine) (hp : ReadersAt w pv p.2) (h6 : p.2.length ≤ 6) :
    Calls Tryd.prog 31 #[.agg #[.string p.1, pv], .pointer (some ⟨M + 1, 0, none⟩)] w fun e w' => e = .returned (.bool (hidesF mine p)) ∧ Below w.heap.size w w' := by
  obtain ⟨o, rs⟩ := p
  obtain ⟨ro, rb, roff, rc, hp1, _, _, hp4⟩ := hp
  subst hp1
  simp only at hp4 h6 ⊢
  obtain ⟨mo, mb, mc, g0, gs⟩ := h.m0
  obtain ⟨wz, hwz⟩ : ∃ wz, wz = w.alloc (.cells #[.string o, .slice ro rs.length rc] 61) := ⟨_, rfl⟩
  have hbz : Below w.heap.size w wz := by rw [hwz]; exact (Below.refl _ _).alloc (Nat.le_refl _) _
  have z0 : wz.heap[M]? = some (.cells #[.slice mo mine.length mc] 22 (0, 0)) := (hbz.block _ (lt_of_block g0)).trans g0
  have zs : Strs wz mo mb 0 mine := gs.later hbz
  have z1 : wz.heap[M + 1]? = some (.cells #[.func (.func 30) #[] #[.pointer (some ⟨M, 0, none⟩)]] 64 (0, 0)) := (hbz.block _ (lt_of_block h.m1)).trans h.m1
  have zb : wz.heap[w.heap.size]? = some (.cells #[.string o, .slice ro rs.length rc] 61 (0, 0)) := by rw [hwz]; exact heap_at_alloc _ _ _ rfl
  have eg : ∀ args w, (callFunc 30 args).run Tryd.prog w = .ok (.enter 30 args) w := enters_of Tryd.func30 (by kernel_rfl) rfl
  have hc1 := isMineC M o mine mo mb mc wz z0 zs h.few
  have hc2 := containsFuncS 30 #[.pointer (some ⟨M, 0, none⟩)] eg (fun s => Act.has mine s) ro rb roff rs.length rc rs wz rfl (by omega) (hp4.later hbz) (fun W s _ hW => (isMineC M s mine mo mb mc W ((hW.block _ (lt_of_block z0)).trans z0) (zs.later hW) h.few).mono fun e w' ⟨h1, h2⟩ => ⟨h1, by rw [h2]; exact Below.refl _ _⟩)
  have m1c : w.cell? ⟨M + 1, 0, none⟩ = some (.func (.func 30) #[] #[.pointer (some ⟨M, 0, none⟩)]) := by simp [World.cell?, h.m1]
  have ml : M + 1 < w.heap.size := lt_of_block h.m1
  obtain ⟨N, hN⟩ : ∃ N, N = rs.length := ⟨_, rfl⟩
  obtain ⟨t1, ht1⟩ : ∃ t, t = Act.has mine o := ⟨_, rfl⟩
  obtain ⟨t2, ht2⟩ : ∃ t, t = rs.any fun s => Act.has mine s := ⟨_, rfl⟩
  have hF : hidesF mine (o, rs) = (!t1 && !t2) := by rw [ht1, ht2]; rfl
  rw [hF]
  rw [← ht1] at hc1
  rw [← ht2] at hc2
  rw [← hN] at hc2 hwz zb ⊢
  have HBZ : Hid (Below w.heap.size w wz) := hbz
  have HWZ : Hid (wz = w.alloc (.cells #[.string o, .slice ro N rc] 61)) := hwz
  have c10 : wz.cell? ⟨w.heap.size, 1, none⟩ = some (.slice ro N rc) := by simp [World.cell?, zb]
  have c11 : wz.cell? ⟨M + 1, 0, none⟩ = some (.func (.func 30) #[] #[.pointer (some ⟨M, 0, none⟩)]) := by simp [World.cell?, z1]
  have lz : w.heap.size < wz.heap.size := lt_of_block zb
  have lz1 : M + 1 < wz.heap.size := lt_of_block z1
  clear h hp4 h6 g0 gs hbz hwz z0 zs z1 zb ht1 ht2 hF hN
  go_enter Tryd.func31, Tryd.ntmps31
  cases t1
  · go_wp2_with fail
    rw [← HWZ.out]
    refine hc1.mono ?_
    rintro e w1 ⟨rfl, hw⟩
    have hw' := hw.symm
    subst hw'
    go_wp2_with fail
    refine hc2.mono ?_
    rintro e w2 ⟨rfl, hb2⟩
    go_wp2
    go_ret
    exact ⟨by cases t2 <;> rfl, HBZ.out.trans (hb2.mono HBZ.out.size)⟩
  · go_wp2_with fail
    rw [← HWZ.out]
    refine hc1.mono ?_
    rintro e w1 ⟨rfl, hw⟩
    have hw' := hw.symm
    subst hw'
    go_wp2
    go_ret
    exact ⟨rfl, HBZ.out⟩

set_option maxHeartbeats 2000000 in
theorem seesC (S M : Nat) (v : Value) (ao po lo : Option Addr) (b off b' off' n m c d lb loff ln lc : Nat) (ls : List ByteArray) (ps : List (ByteArray × ByteArray)) (who : ByteArray) (x : List Pol) (w : World) (hc : Chiefs w ao po b off b' off' n m c ls ps) (h : EyeIs w v S M ao po n m c d who (mineF ls ps who)) (hx : LabAt w lo lb loff ln lc x) :
    Calls Tryd.prog 33 #[.slice lo ln lc, .pointer (some ⟨S, 0, none⟩), .pointer (some ⟨S + 1, 0, none⟩), .pointer (some ⟨S + 2, 0, none⟩), .pointer (some ⟨M + 2, 0, none⟩)] w fun e w' => e = .returned (.tuple #[.bool (seesV ls ps who x), .int .i64 (seesE ls ps who x)]) ∧ Below w.heap.size w w' := by
  have hk0 := checkLab ao po lo b off b' off' n m c d lb loff ln lc ls ps x w hc hx
  have c0 : w.cell? ⟨S, 0, none⟩ = some (.slice ao n c) := by simp [World.cell?, h.b0]
  have c1 : w.cell? ⟨S + 1, 0, none⟩ = some (.slice po m d) := by simp [World.cell?, h.b1]
  have HC : Hid (Chiefs w ao po b off b' off' n m c ls ps) := hc
  have HX : Hid (LabAt w lo lb loff ln lc x) := hx
  have HE : Hid (EyeIs w v S M ao po n m c d who (mineF ls ps who)) := h
  clear hc hx h
  by_cases h0 : checkL ls ps x = 0
  · have HZ : Hid (checkL ls ps x = 0) := h0
    rw [h0] at hk0
    clear h0
    have hE1 := fun w1 (hb1 : Below w.heap.size w w1) => HE.out.later hb1
    have hC1 := fun w1 (hb1 : Below w.heap.size w w1) => HC.out.later hb1
    have HD : Hid (∀ w1, Below w.heap.size w w1 → w1.cell? ⟨S, 0, none⟩ = some (.slice ao n c) ∧ w1.cell? ⟨S + 2, 0, none⟩ = some (.string who) ∧ w1.cell? ⟨M + 2, 0, none⟩ = some (.func (.func 31) #[] #[.pointer (some ⟨M + 1, 0, none⟩)])) := fun w1 hb1 => ⟨by simp [World.cell?, (hE1 w1 hb1).b0], by simp [World.cell?, (hE1 w1 hb1).b2], by simp [World.cell?, (hE1 w1 hb1).m2]⟩
    have HCT : Hid (∀ w1, Below w.heap.size w w1 → Calls Tryd.prog 13 #[.slice ao n c, .string who] w1 fun e w' => e = .returned (.bool (Act.has ls who)) ∧ w' = w1) := fun w1 hb1 => contains_any ao b off n c ls who w1 (hC1 w1 hb1).ln (hC1 w1 hb1).mn (hC1 w1 hb1).strs
    clear hE1 hC1
    cases hh : Act.has ls who with
    | false =>
      rw [hh] at HCT
      have HV : Hid (seesE ls ps who x = 5) := by show _ = _; unfold seesE; rw [if_pos HZ.out, if_neg (by rw [hh]; decide)]
      have HW : Hid (seesV ls ps who x = false) := by show _ = _; unfold seesV; rw [HV.out]; rfl
      rw [HV.out, HW.out]
      clear hh
      go_enter Tryd.func33, Tryd.ntmps33
      go_wp2_with fail
      refine hk0.mono ?_
      rintro e w1 ⟨rfl, hb1⟩
      obtain ⟨d0, d2, d4⟩ := HD.out w1 hb1
      have hct := HCT.out w1 hb1
      have HB1 : Hid (Below w.heap.size w w1) := hb1
      clear hb1
      go_wp2_with fail
      refine hct.mono ?_
      rintro e w2 ⟨rfl, hw⟩
      have hw' := hw.symm
      subst hw'
      go_wp2
      go_ret2
      exact ⟨rfl, HB1.out⟩
    | true =>
      rw [hh] at HCT
      have HV : Hid (seesE ls ps who x = 0) := by show _ = _; unfold seesE; rw [if_pos HZ.out, if_pos hh]
      have HW : Hid (seesV ls ps who x = !(x.any fun p => hidesF (mineF ls ps who) p)) := by show _ = _; unfold seesV; rw [HV.out]; simp
      rw [HV.out, HW.out]
      obtain ⟨_, h200, _, h6⟩ := checkL_ok HZ.out
      have HCF : Hid (∀ w1, Below w.heap.size w w1 → Calls Tryd.prog 35 #[.slice lo ln lc, .func (.func 31) #[] #[.pointer (some ⟨M + 1, 0, none⟩)]] w1 fun e w' => e = .returned (.bool (x.any fun p => hidesF (mineF ls ps who) p)) ∧ Below w1.heap.size w1 w') := fun w1 hb1 =>
        containsFuncP 31 #[.pointer (some ⟨M + 1, 0, none⟩)] (enters_of Tryd.func31 (by kernel_rfl) rfl) (fun p => hidesF (mineF ls ps who) p) lo lb loff ln lc x w1 HX.out.ln (by have := HX.out.ln; omega) (HX.out.later hb1).pols (fun W p pv hp hv hW => hidesC S M v pv p ao po n m c d who (mineF ls ps who) W ((HE.out.later hb1).later hW) hv (h6 p hp))
      obtain ⟨t, ht⟩ : ∃ t, t = x.any fun p => hidesF (mineF ls ps who) p := ⟨_, rfl⟩
      rw [← ht] at HCF ⊢
      clear hh ht h200 h6
      go_enter Tryd.func33, Tryd.ntmps33
      go_wp2_with fail
      refine hk0.mono ?_
      rintro e w1 ⟨rfl, hb1⟩
      obtain ⟨d0, d2, d4⟩ := HD.out w1 hb1
      have hct := HCT.out w1 hb1
      have hcf := HCF.out w1 hb1
      have HB1 : Hid (Below w.heap.size w w1) := hb1
      clear hb1
      go_wp2_with fail
      refine hct.mono ?_
      rintro e w2 ⟨rfl, hw⟩
      have hw' := hw.symm
      subst hw'
      go_wp2_with fail
      refine hcf.mono ?_
      rintro e w2 ⟨rfl, hb2⟩
      go_wp2
      go_ret2
      exact ⟨rfl, HB1.out.trans (hb2.mono HB1.out.size)⟩
  · obtain ⟨e0, he0⟩ : ∃ e0, e0 = checkL ls ps x := ⟨_, rfl⟩
    have HV : Hid (seesE ls ps who x = e0) := by show _ = _; unfold seesE; rw [if_neg h0, he0]
    have HW : Hid (seesV ls ps who x = false) := by show _ = _; unfold seesV; rw [HV.out, he0]; simp [h0]
    rw [HV.out, HW.out]
    rw [← he0] at hk0 h0
    have hb : (e0 == 0) = false := by simp [h0]
    have hb' : (e0 != 0) = true := by simp [h0]
    clear h0 he0
    go_enter Tryd.func33, Tryd.ntmps33
    go_wp2_with fail
    refine hk0.mono ?_
    rintro e w1 ⟨rfl, hb1⟩
    go_wp2
    go_ret2
    exact ⟨rfl, hb1⟩
end Go.Proofs.YtfhpmnghakhlkaaDoor
