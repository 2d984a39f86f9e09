/- Contract of label.Join. -/
import Derived.Test.YtjidnkecjkngnaaConcatN
namespace Go.Proofs.Ytjidnkecjkngnaa
open Go.RowKit

theorem norm_facts {ls : List ByteArray} {ps : List (ByteArray × ByteArray)} {x y : List Pol} (h0 : checkF ls ps = 0) (hof : Lab.OfL ls x) (h6 : ∀ p ∈ x, p.2.length ≤ 6) (hn : Lab.Norm blt plt ps x y) : Lab.OfL ls y ∧ (∀ p ∈ y, p.2.length ≤ 6) ∧ checkL ls ps y = 0 ∧ ∀ p ∈ y, SmallP p := by
  have hcl : ∀ c ∈ y, Lab.cleaned blt x c := fun c hc => ((hn.mem c).1 hc).1
  have hofy : Lab.OfL ls y := fun c hc => of_clean hof (hcl c hc)
  have h6y : ∀ p ∈ y, p.2.length ≤ 6 := by
    intro c hc
    obtain ⟨p, hp, h⟩ := hcl c hc
    rw [← Lab.clean_unique blt_order (plainF_clean p) h]
    have h1 := plainF_len p
    have h2 := h6 p hp
    omega
  have hlen : y.length ≤ 192 := by
    refine Lab.norm_few blt_order plt_order (right_of h0).1 hn.up (fun c hc => ?_) hofy
    obtain ⟨p, hp, h⟩ := hcl c hc
    refine ⟨rfl, h.up, fun r => ⟨fun hr => ⟨hr, ?_⟩, fun hr => hr.1⟩⟩
    rw [h.own]
    exact ((h.mem r).1 hr).2
  exact ⟨hofy, h6y, checkL_of h0 (by omega) hofy h6y, smallP_of h0 hofy h6y⟩

set_option maxRecDepth 100000 in
set_option maxHeartbeats 2000000 in
theorem joinC (ao po lo mo : Option Addr) (b off b' off' n m c d lb loff ln lc mb moff mn mc : Nat) (ls : List ByteArray) (ps : List (ByteArray × ByteArray)) (x z : List Pol) (w : World) (hc : Chiefs w ao po b off b' off' n m c ls ps) (hx : LabAt w lo lb loff ln lc x) (hz : LabAt w mo mb moff mn mc z) :
    Calls Try.prog 18 #[.slice ao n c, .slice po m d, .slice lo ln lc, .slice mo mn mc] w fun e w' => ∃ (v : Value) (y : List Pol), e = .returned (.tuple #[v, .int .i64 (bothL ls ps x z)]) ∧ (bothL ls ps x z = 0 → Lab.Norm blt plt ps (x ++ z) y) ∧ LabNew w' w.heap.size v y ∧ Below w.heap.size w w' := by
  have hk0 := checkBothC ao po lo mo b off b' off' n m c d lb loff ln lc mb moff mn mc ls ps x z w hc hx hz
  have HC : Hid (Chiefs w ao po b off b' off' n m c ls ps) := hc
  have HX : Hid (LabAt w lo lb loff ln lc x) := hx
  have HZ : Hid (LabAt w mo mb moff mn mc z) := hz
  clear hc hx hz
  by_cases h0 : bothL ls ps x z = 0
  · have HCK : Hid (checkF ls ps = 0 ∧ x.length ≤ 200 ∧ Lab.OfL ls x ∧ ∀ p ∈ x, p.2.length ≤ 6) := checkL_ok (both_ok h0).1
    have HCZ : Hid (checkF ls ps = 0 ∧ z.length ≤ 200 ∧ Lab.OfL ls z ∧ ∀ p ∈ z, p.2.length ≤ 6) := checkL_ok (both_ok h0).2
    rw [h0]
    rw [h0] at hk0
    clear h0
    go_enter Try.func18, Try.ntmps18
    go_wp2_with fail
    refine hk0.mono ?_
    rintro e w1 ⟨rfl, hb1⟩
    have HB1 : Hid (Below w.heap.size w w1) := hb1
    have hwh := wholeL ao po b off b' off' n m c d ls ps w1 (HC.out.later hb1) HCK.out.1
    clear hb1 hk0
    go_wp2_with fail
    refine hwh.mono ?_
    rintro e w2 ⟨rfl, hord, hb2⟩
    have HB2 : Hid (Below w.heap.size w w2) := HB1.out.trans (hb2.mono HB1.out.size)
    obtain ⟨wz, hwz⟩ : ∃ wz, wz = w2.alloc (.cells #[.slice lo ln lc, .slice mo mn mc] 23) := ⟨_, rfl⟩
    have hbz : Below w2.heap.size w2 wz := by rw [hwz]; exact (Below.refl _ _).alloc (Nat.le_refl _) _
    have k0 : wz.heap[w2.heap.size]? = some (.cells #[.slice lo ln lc, .slice mo mn mc] 23 (0, 0)) := by rw [hwz]; exact heap_at_alloc _ _ _ rfl
    have HBZ : Hid (Below w.heap.size w wz) := HB2.out.trans (hbz.mono HB2.out.size)
    obtain ⟨L1, hL1, hp1⟩ := prow_of (HX.out.later HBZ.out).pols
    obtain ⟨L2, hL2, hp2⟩ := prow_of (HZ.out.later HBZ.out).pols
    have l1 : ln = L1.length := by have := HX.out.ln; rw [← hL1, List.length_map] at this; exact this
    have l2 : mn = L2.length := by have := HZ.out.ln; rw [← hL2, List.length_map] at this; exact this
    have b1 : L1.length ≤ 200 := by have := HCK.out.2.1; rw [← hL1, List.length_map] at this; exact this
    have b2 : L2.length ≤ 200 := by have := HCZ.out.2.1; rw [← hL2, List.length_map] at this; exact this
    have hcat := concatN w2.heap.size lo mo lb loff mb moff ln mn lc mc L1 L2 wz l1 l2 (by omega) (by simp [World.cell?, k0]) (by simp [World.cell?, k0]) (lt_of_block k0) hp1 hp2
    have HRD : Hid (∀ y ∈ L1 ++ L2, ReadersAt wz y.2 y.1.2) := fun y hy => (List.mem_append.1 hy).elim (hp1.rd y) (hp2.rd y)
    have HMAP : Hid ((L1 ++ L2).map (·.1) = x ++ z) := by show _ = _; rw [List.map_append, hL1, hL2]
    have HLEN : Hid ((L1 ++ L2).length ≤ 400) := by show _ ≤ _; rw [List.length_append]; omega
    have HORD : Hid (Ord wz w1.heap.size (Act.acts ls ps)) := hord.later hbz
    have HWZ : Hid (wz = w2.alloc (.cells #[.slice lo ln lc, .slice mo mn mc] 23)) := hwz
    clear hord hb2 hwh hwz hbz k0 hL1 hL2 hp1 hp2 l1 l2 b1 b2
    obtain ⟨L, hL⟩ : ∃ L, L = L1 ++ L2 := ⟨_, rfl⟩
    rw [← hL] at hcat HRD HMAP HLEN
    clear hL
    go_wp2_with fail
    rw [← HWZ.out]
    refine hcat.mono ?_
    rintro e w3 ⟨v3, rfl, ho3, hb3⟩
    obtain ⟨co, cc, hv3⟩ := slice_of ho3
    subst hv3
    have HB3 : Hid (Below w.heap.size w w3) := HBZ.out.trans (hb3.mono HBZ.out.size)
    obtain ⟨cb, coff, hpc⟩ := pols_own rfl ho3 (fun y hy => (HRD.out y hy).later hb3)
    have hno := normalN w1.heap.size ls ps co cb coff L.length cc (L.map (·.1)) w3 HCK.out.1
      (by rw [HMAP.out]; exact fun p hp => (List.mem_append.1 hp).elim (HCK.out.2.2.1 p) (HCZ.out.2.2.1 p))
      (by rw [HMAP.out]; exact fun p hp => (List.mem_append.1 hp).elim (HCK.out.2.2.2 p) (HCZ.out.2.2.2 p))
      (HORD.out.later hb3) (by rw [List.length_map]) (by have := HLEN.out; omega) hpc
    rw [HMAP.out] at hno
    clear hpc hb3 ho3 hcat HORD HRD
    go_wp2_with fail
    refine hno.mono ?_
    rintro e w4 ⟨v, y, rfl, hy, hl, hb4⟩
    have HF : Hid (Lab.Norm blt plt ps (x ++ z) y ∧ LabNew w4 w.heap.size v y ∧ Below w.heap.size w w4) := ⟨hy, by
      obtain ⟨M, k1, k2, k3⟩ := hl
      exact ⟨M, k1, ownsRow_le' k2 HB3.out.size, k3⟩, HB3.out.trans (hb4.mono HB3.out.size)⟩
    clear hy hl hb4 hno
    go_wp2
    go_ret2
    exact ⟨v, y, rfl, fun _ => HF.out.1, HF.out.2.1, HF.out.2.2⟩
  · obtain ⟨e0, he0⟩ : ∃ e0, e0 = bothL ls ps x z := ⟨_, rfl⟩
    rw [← he0] at hk0 h0 ⊢
    have hb : (e0 == 0) = false := by simp [h0]
    have hb' : (e0 != 0) = true := by simp [h0]
    have HH : Hid (¬ e0 = 0) := h0
    clear h0 he0
    go_enter Try.func18, Try.ntmps18
    go_wp2_with fail
    refine hk0.mono ?_
    rintro e w1 ⟨rfl, hb1⟩
    have HB1 : Hid (Below w.heap.size w w1) := hb1
    clear hb1 hk0
    go_wp2
    go_ret2
    exact ⟨_, [], rfl, fun h => absurd h HH.out, ⟨[], rfl, World.ownsRow_nil _ _ _ _, fun z hz => by cases hz⟩, HB1.out⟩
end Go.Proofs.Ytjidnkecjkngnaa
