/- Contracts of label's order: acts, lets, covers, covered. -/
import Derived.Test.YtjidnkecjkngnaaKeyP
import Derived.Test.YtjidnkecjkngnaaFnP
import Derived.Shelf.Abstract
namespace Go.Proofs.Ytjidnkecjkngnaa
open Go.RowKit Go.Maps

/- Lengths of a policy's names. -/
structure SzP (p : Pol) : Prop where
  own : p.1.size ≤ maxLen
  few : p.2.length ≤ 1000
  rd : ∀ r ∈ p.2, r.size ≤ maxLen

theorem bcellL {W w1 : World} (hb : Below W.heap.size W w1) : (∀ b o, b < W.heap.size → w1.cell? ⟨b, o, none⟩ = W.cell? ⟨b, o, none⟩) ∧ (∀ b o, b < W.heap.size → w1.frozen? ⟨b, o, none⟩ = W.frozen? ⟨b, o, none⟩) :=
  ⟨fun b o h => hb.cell (p := ⟨b, o, none⟩) h, fun b o h => hb.frozen (p := ⟨b, o, none⟩) h⟩
theorem ReadersAt.fit {w : World} {v : Value} {rs : List ByteArray} (h : ReadersAt w v rs) : ∃ ro rb roff rc, v = .slice ro rs.length rc ∧ Strs w ro rb roff rs := by
  obtain ⟨ro, rb, roff, rc, h1, _, _, h4⟩ := h
  exact ⟨ro, rb, roff, rc, h1, h4⟩

set_option maxHeartbeats 1000000 in
theorem oacts_any (B : Nat) (T : ByteArray → ByteArray → Bool) (a b : ByteArray) (w : World) (h : Ord w B T) (ha : a.size ≤ maxLen) (hb : b.size ≤ maxLen) :
    Calls Try.prog 45 #[.map (some B), .string a, .string b] w fun e w' => e = .returned (.bool (T a b)) ∧ Below w.heap.size w w' := by
  obtain ⟨n, D, hown, hj⟩ := h
  have HJ : Hid (Maps.has D (pairKey a b) = T a b) := hj a b ha hb
  have HK : Hid (keyOf Try.prog 35 (.agg #[.string a, .string b]) = some (pairKey a b)) := pairKey_of ha hb
  have HO : Hid (w.ownsMap Try.prog 35 (unitElem (H := Unit)) B n D) := hown
  obtain ⟨t, ht⟩ : ∃ t, t = T a b := ⟨_, rfl⟩
  rw [← ht]
  have HT : Hid (Maps.has D (pairKey a b) = t) := by rw [ht]; exact HJ
  clear ha hb hj hown HJ ht
  go_enter Try.func45, Try.ntmps45
  go_wp2_with (at_lookup; refine wpList_lookup_own_unit (H := Unit) _ rfl _ _ 67 rfl 35 87 lawP Try.underlying67 (zeroU _) B n D rfl HO.out _ _ rfl HK.out ?_; rw [HT.out])
  go_ret
  exact ⟨rfl, (Below.refl _ _).alloc (Nat.le_refl _) _⟩

theorem actsFor_any (B : Nat) (T : ByteArray → ByteArray → Bool) (ob wb : Nat) (who b : ByteArray) (w : World) (h : Ord w B T) (hw : who.size ≤ maxLen) (hb : b.size ≤ maxLen)
    (c0 : w.cell? ⟨ob, 0, none⟩ = some (.map (some B))) (c1 : w.cell? ⟨wb, 0, none⟩ = some (.string who)) :
    Calls Try.prog 56 #[.string b, .pointer (some ⟨ob, 0, none⟩), .pointer (some ⟨wb, 0, none⟩)] w fun e w' => e = .returned (.bool (T who b)) ∧ Below w.heap.size w w' := by
  have HK : Hid (Calls Try.prog 45 #[.map (some B), .string who, .string b] w fun e w' => e = .returned (.bool (T who b)) ∧ Below w.heap.size w w') := oacts_any B T who b w h hw hb
  clear h hw hb
  obtain ⟨t, ht⟩ : ∃ t, t = T who b := ⟨_, rfl⟩
  rw [← ht] at HK ⊢
  clear ht
  go_enter Try.func56, Try.ntmps56
  go_wp2_with fail
  refine HK.out.mono ?_
  rintro e w1 ⟨rfl, hb1⟩
  go_wp2
  go_ret
  exact ⟨rfl, hb1⟩

set_option maxHeartbeats 1000000 in
theorem lets_any (B : Nat) (ls : List ByteArray) (ps : List (ByteArray × ByteArray)) (p : Pol) (v : Value) (who : ByteArray) (w : World) (h : Ord w B (Act.acts ls ps)) (hv : ReadersAt w v p.2) (hz : SzP p) (hw : who.size ≤ maxLen) :
    Calls Try.prog 37 #[.map (some B), .agg #[.string p.1, v], .string who] w fun e w' => e = .returned (.bool (Lab.letsB ls ps p who)) ∧ Below w.heap.size w w' := by
  obtain ⟨o, rs⟩ := p
  obtain ⟨wz, hwz⟩ : ∃ wz, wz = ((w.alloc (.cells #[.map (some B)] 67)).alloc (.cells #[.string o, v] 51)).alloc (.cells #[.string who] 9) := ⟨_, rfl⟩
  have hbz : Below w.heap.size w wz := by rw [hwz]; exact (((Below.refl _ _).alloc (Nat.le_refl _) _).alloc (by simp) _).alloc (by simp; omega) _
  have k0 : wz.heap[w.heap.size]? = some (.cells #[.map (some B)] 67 (0, 0)) := by rw [hwz]; exact heap_past_alloc (heap_past_alloc (heap_at_alloc _ _ _ rfl))
  have k1 : wz.heap[w.heap.size + 1]? = some (.cells #[.string o, v] 51 (0, 0)) := by rw [hwz]; exact heap_past_alloc (heap_at_alloc _ _ _ (by simp))
  have k2 : wz.heap[w.heap.size + 1 + 1]? = some (.cells #[.string who] 9 (0, 0)) := by rw [hwz]; exact heap_at_alloc _ _ _ (by simp)
  have hcl : ∀ (W : World) (b : ByteArray), b.size ≤ maxLen → Below wz.heap.size wz W → Calls Try.prog 56 #[.string b, .pointer (some ⟨w.heap.size, 0, none⟩), .pointer (some ⟨w.heap.size + 1 + 1, 0, none⟩)] W fun e w' => e = .returned (.bool (Act.acts ls ps who b)) ∧ Below W.heap.size W w' := fun W b hb hW =>
    actsFor_any B (Act.acts ls ps) w.heap.size (w.heap.size + 1 + 1) who b W ((h.later hbz).later hW) hw hb
      (by have e := (hW.block _ (lt_of_block k0)).trans k0; simp [World.cell?, e]) (by have e := (hW.block _ (lt_of_block k2)).trans k2; simp [World.cell?, e])
  have HC1 : Hid (Calls Try.prog 56 #[.string o, .pointer (some ⟨w.heap.size, 0, none⟩), .pointer (some ⟨w.heap.size + 1 + 1, 0, none⟩)] wz fun e w' => e = .returned (.bool (Act.acts ls ps who o)) ∧ Below wz.heap.size wz w') := hcl wz o hz.own (Below.refl _ _)
  have HC2 : Hid (∀ W, Below wz.heap.size wz W → Calls Try.prog 15 #[v, .func (.func 56) #[] #[.pointer (some ⟨w.heap.size, 0, none⟩), .pointer (some ⟨w.heap.size + 1 + 1, 0, none⟩)]] W fun e w' => e = .returned (.bool (rs.any fun r => Act.acts ls ps who r)) ∧ Below W.heap.size W w') := by
    intro W hW
    obtain ⟨ro, rb, roff, rc, hv1, hv4⟩ := (hv.later (hbz.trans (hW.mono hbz.size))).fit
    subst hv1
    exact containsFuncS _ _ (enters_of Try.func56 (by kernel_rfl) rfl) (fun r => Act.acts ls ps who r) ro rb roff _ rc rs W rfl hz.few hv4 (fun W' s hs hW' => hcl W' s (hz.rd s hs) (hW.trans (hW'.mono hW.size)))
  have HK1 : Hid (∀ W, Below wz.heap.size wz W → W.heap[w.heap.size + 1]? = some (.cells #[.string o, v] 51 (0, 0))) := fun W hW => (hW.block _ (lt_of_block k1)).trans k1
  have hmf : ∀ (fn : Fn) (first cap : Array Value) (w : World), (Instr.makeFunc fn first cap).run Try.prog w = .ok (.func fn first cap) w := fun _ _ _ _ => rfl
  have HBZ : Hid (Below w.heap.size w wz) := hbz
  have HE : Hid (Lab.letsB ls ps (o, rs) who = (Act.acts ls ps who o || rs.any fun r => Act.acts ls ps who r)) := rfl
  rw [HE.out]
  obtain ⟨t1, ht1⟩ : ∃ t1, t1 = Act.acts ls ps who o := ⟨_, rfl⟩
  obtain ⟨t2, ht2⟩ : ∃ t2, t2 = rs.any fun r => Act.acts ls ps who r := ⟨_, rfl⟩
  rw [← ht1] at HC1 ⊢
  rw [← ht2] at HC2 ⊢
  have HWZ : Hid (wz = ((w.alloc (.cells #[.map (some B)] 67)).alloc (.cells #[.string o, v] 51)).alloc (.cells #[.string who] 9)) := hwz
  clear ht1 ht2 hcl k0 k1 k2 hbz hz hv hw h HE hwz
  go_enter Try.func37, Try.ntmps37
  go_wp2_with fail
  rw [← HWZ.out]
  refine HC1.out.mono ?_
  rintro e w1 ⟨rfl, hb1⟩
  have k1 := HK1.out w1 hb1
  have f1 : w1.cell? ⟨w.heap.size + 1, 1, none⟩ = some v := by simp [World.cell?, k1]
  have hc3 := HC2.out w1 hb1
  have HB1 : Hid (Below w.heap.size w w1) := HBZ.out.trans (hb1.mono HBZ.out.size)
  clear k1 hb1 HK1 HC2 HC1
  cases t1 with
  | true =>
    go_wp2
    go_ret
    exact ⟨rfl, HB1.out⟩
  | false =>
    go_wp2_with fail
    refine hc3.mono ?_
    rintro e w2 ⟨rfl, hb2⟩
    go_wp2
    go_ret
    exact ⟨by simp, HB1.out.trans (hb2.mono HB1.out.size)⟩

theorem shut_any (B : Nat) (ls : List ByteArray) (ps : List (ByteArray × ByteArray)) (ob pb : Nat) (p : Pol) (v : Value) (r : ByteArray) (w : World) (h : Ord w B (Act.acts ls ps)) (hv : ReadersAt w v p.2) (hz : SzP p) (hr : r.size ≤ maxLen)
    (c0 : w.cell? ⟨ob, 0, none⟩ = some (.map (some B))) (c1 : w.cell? ⟨pb, 0, none⟩ = some (.string p.1)) (c2 : w.cell? ⟨pb, 1, none⟩ = some v) :
    Calls Try.prog 67 #[.string r, .pointer (some ⟨ob, 0, none⟩), .pointer (some ⟨pb, 0, none⟩)] w fun e w' => e = .returned (.bool (!Lab.letsB ls ps p r)) ∧ Below w.heap.size w w' := by
  have HK : Hid (Calls Try.prog 37 #[.map (some B), .agg #[.string p.1, v], .string r] w fun e w' => e = .returned (.bool (Lab.letsB ls ps p r)) ∧ Below w.heap.size w w') := lets_any B ls ps p v r w h hv hz hr
  clear h hv hz hr
  obtain ⟨t, ht⟩ : ∃ t, t = Lab.letsB ls ps p r := ⟨_, rfl⟩
  rw [← ht] at HK ⊢
  clear ht
  go_enter Try.func67, Try.ntmps67
  go_wp2_with fail
  refine HK.out.mono ?_
  rintro e w1 ⟨rfl, hb1⟩
  go_wp2
  go_ret
  exact ⟨rfl, hb1⟩

set_option maxHeartbeats 1000000 in
theorem covers_any (B : Nat) (ls : List ByteArray) (ps : List (ByteArray × ByteArray)) (q p : Pol) (u v : Value) (w : World) (h : Ord w B (Act.acts ls ps)) (hu : ReadersAt w u q.2) (hv : ReadersAt w v p.2) (hq : SzP q) (hz : SzP p) :
    Calls Try.prog 54 #[.map (some B), .agg #[.string q.1, u], .agg #[.string p.1, v]] w fun e w' => e = .returned (.bool (Lab.coversB ls ps q p)) ∧ Below w.heap.size w w' := by
  obtain ⟨o, rs⟩ := q
  obtain ⟨wz, hwz⟩ : ∃ wz, wz = ((w.alloc (.cells #[.map (some B)] 67)).alloc (.cells #[.string o, u] 51)).alloc (.cells #[.string p.1, v] 51) := ⟨_, rfl⟩
  have hbz : Below w.heap.size w wz := by rw [hwz]; exact (((Below.refl _ _).alloc (Nat.le_refl _) _).alloc (by simp) _).alloc (by simp; omega) _
  have k0 : wz.heap[w.heap.size]? = some (.cells #[.map (some B)] 67 (0, 0)) := by rw [hwz]; exact heap_past_alloc (heap_past_alloc (heap_at_alloc _ _ _ rfl))
  have k1 : wz.heap[w.heap.size + 1]? = some (.cells #[.string o, u] 51 (0, 0)) := by rw [hwz]; exact heap_past_alloc (heap_at_alloc _ _ _ (by simp))
  have k2 : wz.heap[w.heap.size + 1 + 1]? = some (.cells #[.string p.1, v] 51 (0, 0)) := by rw [hwz]; exact heap_at_alloc _ _ _ (by simp)
  have hcl : ∀ (W : World) (r : ByteArray), r.size ≤ maxLen → Below wz.heap.size wz W → Calls Try.prog 67 #[.string r, .pointer (some ⟨w.heap.size, 0, none⟩), .pointer (some ⟨w.heap.size + 1 + 1, 0, none⟩)] W fun e w' => e = .returned (.bool (!Lab.letsB ls ps p r)) ∧ Below W.heap.size W w' := fun W r hr hW =>
    shut_any B ls ps w.heap.size (w.heap.size + 1 + 1) p v r W ((h.later hbz).later hW) (hv.later (hbz.trans (hW.mono hbz.size))) hz hr
      (by have e := (hW.block _ (lt_of_block k0)).trans k0; simp [World.cell?, e]) (by have e := (hW.block _ (lt_of_block k2)).trans k2; simp [World.cell?, e]) (by have e := (hW.block _ (lt_of_block k2)).trans k2; simp [World.cell?, e])
  have HC1 : Hid (Calls Try.prog 45 #[.map (some B), .string o, .string p.1] wz fun e w' => e = .returned (.bool (Act.acts ls ps o p.1)) ∧ Below wz.heap.size wz w') := oacts_any B _ o p.1 wz (h.later hbz) hq.own hz.own
  have HC2 : Hid (∀ W, Below wz.heap.size wz W → Calls Try.prog 15 #[u, .func (.func 67) #[] #[.pointer (some ⟨w.heap.size, 0, none⟩), .pointer (some ⟨w.heap.size + 1 + 1, 0, none⟩)]] W fun e w' => e = .returned (.bool (rs.any fun r => !Lab.letsB ls ps p r)) ∧ Below W.heap.size W w') := by
    intro W hW
    obtain ⟨ro, rb, roff, rc, hv1, hv4⟩ := (hu.later (hbz.trans (hW.mono hbz.size))).fit
    subst hv1
    exact containsFuncS _ _ (enters_of Try.func67 (by kernel_rfl) rfl) (fun r => !Lab.letsB ls ps p r) ro rb roff _ rc rs W rfl hq.few hv4 (fun W' s hs hW' => hcl W' s (hq.rd s hs) (hW.trans (hW'.mono hW.size)))
  have HK1 : Hid (∀ W, Below wz.heap.size wz W → W.heap[w.heap.size + 1]? = some (.cells #[.string o, u] 51 (0, 0))) := fun W hW => (hW.block _ (lt_of_block k1)).trans k1
  have hmf : ∀ (fn : Fn) (first cap : Array Value) (w : World), (Instr.makeFunc fn first cap).run Try.prog w = .ok (.func fn first cap) w := fun _ _ _ _ => rfl
  have HBZ : Hid (Below w.heap.size w wz) := hbz
  have HE : Hid (Lab.coversB ls ps (o, rs) p = (Act.acts ls ps o p.1 && !(rs.any fun r => !Lab.letsB ls ps p r))) := rfl
  rw [HE.out]
  obtain ⟨t1, ht1⟩ : ∃ t1, t1 = Act.acts ls ps o p.1 := ⟨_, rfl⟩
  obtain ⟨t2, ht2⟩ : ∃ t2, t2 = rs.any fun r => !Lab.letsB ls ps p r := ⟨_, rfl⟩
  rw [← ht1] at HC1 ⊢
  rw [← ht2] at HC2 ⊢
  have HWZ : Hid (wz = ((w.alloc (.cells #[.map (some B)] 67)).alloc (.cells #[.string o, u] 51)).alloc (.cells #[.string p.1, v] 51)) := hwz
  clear ht1 ht2 hcl k0 k1 k2 hbz hz hv hq hu h HE hwz
  go_enter Try.func54, Try.ntmps54
  go_wp2_with fail
  rw [← HWZ.out]
  refine HC1.out.mono ?_
  rintro e w1 ⟨rfl, hb1⟩
  have k1 := HK1.out w1 hb1
  have f1 : w1.cell? ⟨w.heap.size + 1, 1, none⟩ = some u := by simp [World.cell?, k1]
  have hc3 := HC2.out w1 hb1
  have HB1 : Hid (Below w.heap.size w w1) := HBZ.out.trans (hb1.mono HBZ.out.size)
  clear k1 hb1 HK1 HC2 HC1
  cases t1 with
  | false =>
    go_wp2
    go_ret
    exact ⟨rfl, HB1.out⟩
  | true =>
    go_wp2_with fail
    refine hc3.mono ?_
    rintro e w2 ⟨rfl, hb2⟩
    go_wp2
    go_ret
    exact ⟨by simp, HB1.out.trans (hb2.mono HB1.out.size)⟩

theorem coversBy_any (B : Nat) (ls : List ByteArray) (ps : List (ByteArray × ByteArray)) (ob pb : Nat) (q p : Pol) (u v : Value) (w : World) (h : Ord w B (Act.acts ls ps)) (hu : ReadersAt w u q.2) (hv : ReadersAt w v p.2) (hq : SzP q) (hz : SzP p)
    (c0 : w.cell? ⟨ob, 0, none⟩ = some (.map (some B))) (c1 : w.cell? ⟨pb, 0, none⟩ = some (.string p.1)) (c2 : w.cell? ⟨pb, 1, none⟩ = some v) :
    Calls Try.prog 53 #[.agg #[.string q.1, u], .pointer (some ⟨ob, 0, none⟩), .pointer (some ⟨pb, 0, none⟩)] w fun e w' => e = .returned (.bool (Lab.coversB ls ps q p)) ∧ Below w.heap.size w w' := by
  have hb0 : Below w.heap.size w (w.alloc (.cells #[.string q.1, u] 51)) := (Below.refl _ _).alloc (Nat.le_refl _) _
  have l0 : ob < w.heap.size := World.block_lt_of_cell? w _ c0
  have l1 : pb < w.heap.size := World.block_lt_of_cell? w _ c1
  have HK : Hid (Calls Try.prog 54 #[.map (some B), .agg #[.string q.1, u], .agg #[.string p.1, v]] (w.alloc (.cells #[.string q.1, u] 51)) fun e w' => e = .returned (.bool (Lab.coversB ls ps q p)) ∧ Below (w.alloc (.cells #[.string q.1, u] 51)).heap.size (w.alloc (.cells #[.string q.1, u] 51)) w') := covers_any B ls ps q p u v _ (h.later hb0) (hu.later hb0) (hv.later hb0) hq hz
  have HB : Hid (Below w.heap.size w (w.alloc (.cells #[.string q.1, u] 51))) := hb0
  clear h hu hv hq hz hb0
  obtain ⟨t, ht⟩ : ∃ t, t = Lab.coversB ls ps q p := ⟨_, rfl⟩
  rw [← ht] at HK ⊢
  clear ht
  go_enter Try.func53, Try.ntmps53
  go_wp2_with fail
  refine HK.out.mono ?_
  rintro e w1 ⟨rfl, hb1⟩
  go_wp2
  go_ret
  exact ⟨rfl, HB.out.trans (hb1.mono (by simp))⟩

set_option maxHeartbeats 1000000 in
theorem covered_any (B : Nat) (ls : List ByteArray) (ps : List (ByteArray × ByteArray)) (p : Pol) (v : Value) (ao : Option Addr) (b off n c : Nat) (x : List Pol) (w : World) (h : Ord w B (Act.acts ls ps)) (hv : ReadersAt w v p.2) (hz : SzP p) (hn : n = x.length) (hm : n ≤ 1000) (hx : Pols w ao b off x) (hxz : ∀ q ∈ x, SzP q) :
    Calls Try.prog 33 #[.map (some B), .agg #[.string p.1, v], .slice ao n c] w fun e w' => e = .returned (.bool (Lab.coveredB ls ps x p)) ∧ Below w.heap.size w w' := by
  obtain ⟨wz, hwz⟩ : ∃ wz, wz = (w.alloc (.cells #[.map (some B)] 67)).alloc (.cells #[.string p.1, v] 51) := ⟨_, rfl⟩
  have hbz : Below w.heap.size w wz := by rw [hwz]; exact ((Below.refl _ _).alloc (Nat.le_refl _) _).alloc (by simp) _
  have k0 : wz.heap[w.heap.size]? = some (.cells #[.map (some B)] 67 (0, 0)) := by rw [hwz]; exact heap_past_alloc (heap_at_alloc _ _ _ rfl)
  have k1 : wz.heap[w.heap.size + 1]? = some (.cells #[.string p.1, v] 51 (0, 0)) := by rw [hwz]; exact heap_at_alloc _ _ _ (by simp)
  have HK : Hid (Calls Try.prog 23 #[.slice ao n c, .func (.func 53) #[] #[.pointer (some ⟨w.heap.size, 0, none⟩), .pointer (some ⟨w.heap.size + 1, 0, none⟩)]] wz fun e w' => e = .returned (.bool (x.any fun q => Lab.coversB ls ps q p)) ∧ Below wz.heap.size wz w') :=
    containsFuncP _ _ (enters_of Try.func53 (by kernel_rfl) rfl) (fun q => Lab.coversB ls ps q p) ao b off n c x wz hn hm (hx.later hbz) (fun W q u hq hu hW =>
      coversBy_any B ls ps w.heap.size (w.heap.size + 1) q p u v W ((h.later hbz).later hW) hu (hv.later (hbz.trans (hW.mono hbz.size))) (hxz q hq) hz
        (by have e := (hW.block _ (lt_of_block k0)).trans k0; simp [World.cell?, e]) (by have e := (hW.block _ (lt_of_block k1)).trans k1; simp [World.cell?, e]) (by have e := (hW.block _ (lt_of_block k1)).trans k1; simp [World.cell?, e]))
  have hmf : ∀ (fn : Fn) (first cap : Array Value) (w : World), (Instr.makeFunc fn first cap).run Try.prog w = .ok (.func fn first cap) w := fun _ _ _ _ => rfl
  have HBZ : Hid (Below w.heap.size w wz) := hbz
  have HE : Hid (Lab.coveredB ls ps x p = x.any fun q => Lab.coversB ls ps q p) := rfl
  rw [HE.out]
  obtain ⟨t, ht⟩ : ∃ t, t = x.any fun q => Lab.coversB ls ps q p := ⟨_, rfl⟩
  rw [← ht] at HK ⊢
  have HWZ : Hid (wz = (w.alloc (.cells #[.map (some B)] 67)).alloc (.cells #[.string p.1, v] 51)) := hwz
  clear ht k0 k1 hbz hz hv hx hxz h HE hwz hn hm
  go_enter Try.func33, Try.ntmps33
  go_wp2_with fail
  rw [← HWZ.out]
  refine HK.out.mono ?_
  rintro e w1 ⟨rfl, hb1⟩
  go_wp2
  go_ret
  exact ⟨rfl, HBZ.out.trans (hb1.mono HBZ.out.size)⟩
end Go.Proofs.Ytjidnkecjkngnaa
