/- Contract of label.Flows. -/
import Derived.Test.YtjidnkecjkngnaaLabK
namespace Go.Proofs.Ytjidnkecjkngnaa
open Go.RowKit Go.Maps

theorem szp_of {ls : List ByteArray} {ps : List (ByteArray × ByteArray)} {x : List Pol} (h : checkL ls ps x = 0) : ∀ p ∈ x, SzP p := by
  obtain ⟨h0, _, h1, h2⟩ := checkL_ok h
  obtain ⟨_, _, _, hn⟩ := right_of h0
  have hz : ∀ s ∈ ls, s.size ≤ maxLen := fun s hs => by have := name_short (hn s hs); unfold maxLen; omega
  intro p hp
  exact ⟨hz _ (h1 p hp).1, by have := h2 p hp; omega, fun r hr => hz _ ((h1 p hp).2 r hr)⟩

theorem bare_any (B : Nat) (ls : List ByteArray) (ps : List (ByteArray × ByteArray)) (ob bb : Nat) (p : Pol) (v : Value) (ao : Option Addr) (b off n c : Nat) (x : List Pol) (w : World) (h : Ord w B (Act.acts ls ps)) (hv : ReadersAt w v p.2) (hz : SzP p) (hn : n = x.length) (hm : n ≤ 1000) (hx : Pols w ao b off x) (hxz : ∀ q ∈ x, SzP q)
    (c0 : w.cell? ⟨ob, 0, none⟩ = some (.map (some B))) (c1 : w.cell? ⟨bb, 0, none⟩ = some (.slice ao n c)) :
    Calls Try.prog 32 #[.agg #[.string p.1, v], .pointer (some ⟨ob, 0, none⟩), .pointer (some ⟨bb, 0, none⟩)] w fun e w' => e = .returned (.bool (!Lab.coveredB ls ps x p)) ∧ Below w.heap.size w w' := by
  have hb0 : Below w.heap.size w (w.alloc (.cells #[.string p.1, v] 51)) := (Below.refl _ _).alloc (Nat.le_refl _) _
  have l0 : ob < w.heap.size := World.block_lt_of_cell? w _ c0
  have l1 : bb < w.heap.size := World.block_lt_of_cell? w _ c1
  have HK : Hid (Calls Try.prog 33 #[.map (some B), .agg #[.string p.1, v], .slice ao n c] (w.alloc (.cells #[.string p.1, v] 51)) fun e w' => e = .returned (.bool (Lab.coveredB ls ps x p)) ∧ Below (w.alloc (.cells #[.string p.1, v] 51)).heap.size (w.alloc (.cells #[.string p.1, v] 51)) w') := covered_any B ls ps p v ao b off n c x _ (h.later hb0) (hv.later hb0) hz hn hm (hx.later hb0) hxz
  have HB : Hid (Below w.heap.size w (w.alloc (.cells #[.string p.1, v] 51))) := hb0
  clear h hv hz hb0 hn hm hx hxz
  obtain ⟨t, ht⟩ : ∃ t, t = Lab.coveredB ls ps x p := ⟨_, rfl⟩
  rw [← ht] at HK ⊢
  clear ht
  go_enter Try.func32, Try.ntmps32
  go_wp2_with fail
  refine HK.out.mono ?_
  rintro e w1 ⟨rfl, hb1⟩
  go_wp2
  go_ret
  exact ⟨rfl, HB.out.trans (hb1.mono (by simp))⟩

set_option maxRecDepth 100000 in
set_option maxHeartbeats 2000000 in
theorem flowsC (ao po lo mo : Option Addr) (b off b' off' n m c d lb loff ln lc mb moff mn mc : Nat) (ls : List ByteArray) (ps : List (ByteArray × ByteArray)) (x y : List Pol) (w : World) (hc : Chiefs w ao po b off b' off' n m c ls ps) (hx : LabAt w lo lb loff ln lc x) (hy : LabAt w mo mb moff mn mc y) :
    Calls Try.prog 12 #[.slice ao n c, .slice po m d, .slice lo ln lc, .slice mo mn mc] w fun e w' => e = .returned (.tuple #[.bool (flowsV ls ps x y), .int .i64 (bothL ls ps x y)]) ∧ Below w.heap.size w w' := by
  have hbz : Below w.heap.size w (w.alloc (.cells #[.slice mo mn mc] 23)) := (Below.refl _ _).alloc (Nat.le_refl _) _
  have HK : Hid (Calls Try.prog 30 #[.slice ao n c, .slice po m d, .slice lo ln lc, .slice mo mn mc] (w.alloc (.cells #[.slice mo mn mc] 23)) fun e w' => e = .returned (.int .i64 (bothL ls ps x y)) ∧ Below (w.alloc (.cells #[.slice mo mn mc] 23)).heap.size (w.alloc (.cells #[.slice mo mn mc] 23)) w') := checkBothC ao po lo mo b off b' off' n m c d lb loff ln lc mb moff mn mc ls ps x y _ (hc.later hbz) (hx.later hbz) (hy.later hbz)
  have HBZ : Hid (Below w.heap.size w (w.alloc (.cells #[.slice mo mn mc] 23))) := hbz
  have HKB : Hid ((w.alloc (.cells #[.slice mo mn mc] 23)).heap[w.heap.size]? = some (.cells #[.slice mo mn mc] 23 (0, 0))) := heap_at_alloc _ _ _ rfl
  have HC : Hid (Chiefs w ao po b off b' off' n m c ls ps) := hc
  have HX : Hid (LabAt w lo lb loff ln lc x) := hx
  have HY : Hid (LabAt w mo mb moff mn mc y) := hy
  clear hbz hc hx hy
  by_cases h0 : bothL ls ps x y = 0
  · obtain ⟨hcx, hcy⟩ := both_ok h0
    have HZ : Hid (checkF ls ps = 0) := (checkL_ok hcx).1
    have HV : Hid (flowsV ls ps x y = !(x.any fun p => !Lab.coveredB ls ps y p)) := by show _ = _; simp [flowsV, h0, Lab.flowsB]
    have HSX : Hid (∀ p ∈ x, SzP p) := szp_of hcx
    have HSY : Hid (∀ p ∈ y, SzP p) := szp_of hcy
    have HLX : Hid (ln ≤ 1000) := by have h1 := (checkL_ok hcx).2.1; have h2 := HX.out.ln; show _ ≤ _; omega
    have HLY : Hid (mn ≤ 1000) := by have h1 := (checkL_ok hcy).2.1; have h2 := HY.out.ln; show _ ≤ _; omega
    obtain ⟨t, ht⟩ : ∃ t, t = x.any fun p => !Lab.coveredB ls ps y p := ⟨_, rfl⟩
    have HT : Hid ((x.any fun p => !Lab.coveredB ls ps y p) = t) := ht.symm
    rw [HV.out, h0, HT.out]
    rw [h0] at HK
    clear ht
    clear h0 hcx hcy HV
    have hmf : ∀ (fn : Fn) (first cap : Array Value) (w : World), (Instr.makeFunc fn first cap).run Try.prog w = .ok (.func fn first cap) w := fun _ _ _ _ => rfl
    go_enter Try.func12, Try.ntmps12
    go_wp2_with fail
    refine HK.out.mono ?_
    rintro e w1 ⟨rfl, hb1⟩
    have HB1 : Hid (Below w.heap.size w w1) := HBZ.out.trans (hb1.mono (by simp))
    have HKB1 : Hid (w1.heap[w.heap.size]? = some (.cells #[.slice mo mn mc] 23 (0, 0))) := (hb1.block _ (by simp)).trans HKB.out
    have hwh := wholeL ao po b off b' off' n m c d ls ps w1 (HC.out.later HB1.out) HZ.out
    clear hb1 HK HKB HBZ
    go_wp2_with fail
    refine hwh.mono ?_
    rintro e w2 ⟨rfl, hord, hb2⟩
    have HB2 : Hid (Below w.heap.size w w2) := HB1.out.trans (hb2.mono HB1.out.size)
    have HKB2 : Hid (w2.heap[w.heap.size]? = some (.cells #[.slice mo mn mc] 23 (0, 0))) := (hb2.block _ (lt_of_block HKB1.out)).trans HKB1.out
    obtain ⟨wz, hwz⟩ : ∃ wz, wz = w2.alloc (.cells #[.map (some w1.heap.size)] 67) := ⟨_, rfl⟩
    have hbz2 : Below w2.heap.size w2 wz := by rw [hwz]; exact (Below.refl _ _).alloc (Nat.le_refl _) _
    have HB3 : Hid (Below w.heap.size w wz) := HB2.out.trans (hbz2.mono HB2.out.size)
    have k0 : wz.heap[w2.heap.size]? = some (.cells #[.map (some w1.heap.size)] 67 (0, 0)) := by rw [hwz]; exact heap_at_alloc _ _ _ rfl
    have k1 : wz.heap[w.heap.size]? = some (.cells #[.slice mo mn mc] 23 (0, 0)) := (hbz2.block _ (lt_of_block HKB2.out)).trans HKB2.out
    have hfn := containsFuncP _ #[.pointer (some ⟨w2.heap.size, 0, none⟩), .pointer (some ⟨w.heap.size, 0, none⟩)] (enters_of Try.func32 (by kernel_rfl) rfl) (fun p => !Lab.coveredB ls ps y p) lo lb loff ln lc x wz HX.out.ln HLX.out (HX.out.pols.later HB3.out) (fun W p v hp hv hW =>
      bare_any w1.heap.size ls ps w2.heap.size w.heap.size p v mo mb moff mn mc y W ((hord.later hbz2).later hW) hv (HSX.out p hp) HY.out.ln HLY.out (HY.out.pols.later (HB3.out.trans (hW.mono HB3.out.size))) HSY.out
        (by have e := (hW.block _ (lt_of_block k0)).trans k0; simp [World.cell?, e]) (by have e := (hW.block _ (lt_of_block k1)).trans k1; simp [World.cell?, e]))
    rw [HT.out] at hfn
    have HFN : Hid (Calls Try.prog 23 #[.slice lo ln lc, .func (.func 32) #[] #[.pointer (some ⟨w2.heap.size, 0, none⟩), .pointer (some ⟨w.heap.size, 0, none⟩)]] wz fun e w' => e = .returned (.bool t) ∧ Below wz.heap.size wz w') := hfn
    have HWZ : Hid (wz = w2.alloc (.cells #[.map (some w1.heap.size)] 67)) := hwz
    clear hfn k0 k1 hbz2 hwz hord hb2 hwh HKB1 HKB2
    go_wp2_with fail
    rw [← HWZ.out]
    refine HFN.out.mono ?_
    rintro e w3 ⟨rfl, hb3⟩
    go_wp2
    go_ret2
    exact ⟨rfl, HB3.out.trans (hb3.mono HB3.out.size)⟩
  · have HV : Hid (flowsV ls ps x y = false) := by show _ = _; simp [flowsV, h0]
    rw [HV.out]
    obtain ⟨e0, he0⟩ : ∃ e0, e0 = bothL ls ps x y := ⟨_, rfl⟩
    rw [← he0] at HK h0 ⊢
    have hb : (e0 == 0) = false := by simp [h0]
    have hb' : (e0 != 0) = true := by simp [h0]
    clear HV h0 he0
    go_enter Try.func12, Try.ntmps12
    go_wp2_with fail
    refine HK.out.mono ?_
    rintro e w1 ⟨rfl, hb1⟩
    go_wp2
    go_ret2
    exact ⟨rfl, HBZ.out.trans (hb1.mono (by simp))⟩
end Go.Proofs.Ytjidnkecjkngnaa
