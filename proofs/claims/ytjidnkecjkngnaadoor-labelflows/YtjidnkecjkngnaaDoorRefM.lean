/- Contracts of the document's own MayGo and ReadersOf. -/
import Derived.Test.YtjidnkecjkngnaaDoorRefL
namespace Go.Proofs.YtjidnkecjkngnaaDoor
open Go.RowKit

/- A label whose names are chiefs. -/
structure Good (w : World) (ao : Option Addr) (b off n : Nat) (ls : List ByteArray) (x : List Pol) : Prop where
  ln : n = x.length
  few : n ≤ 1000
  pols : Pols w ao b off x
  of : Lab.OfL ls x
  rd : ∀ p ∈ x, p.2.length ≤ 1000
theorem Good.later {w w' : World} {ao : Option Addr} {b off n : Nat} {ls : List ByteArray} {x : List Pol} (h : Good w ao b off n ls x) (hb : Below w.heap.size w w') : Good w' ao b off n ls x := ⟨h.ln, h.few, h.pols.later hb, h.of, h.rd⟩

set_option maxRecDepth 100000 in
set_option maxHeartbeats 2000000 in
theorem mayGoR (po xo yo : Option Addr) (b off m d xb xoff xn xc yb yoff yn yc : Nat) (ls : List ByteArray) (ps : List (ByteArray × ByteArray)) (x y : List Pol) (w : World) (hp : Pairs w po b off m ps) (hr : Act.Right ls ps) (hx : Good w xo xb xoff xn ls x) (hy : Good w yo yb yoff yn ls y) :
    Calls Tryd.prog 11 #[.slice po m d, .slice xo xn xc, .slice yo yn yc] w fun e w' => e = .returned (.bool (Lab.flowsB ls ps x y)) ∧ Below w.heap.size w w' := by
  have HP : Hid (Pairs w po b off m ps) := hp
  have HR : Hid (Act.Right ls ps) := hr
  have HX : Hid (Good w xo xb xoff xn ls x) := hx
  have HY : Hid (Good w yo yb yoff yn ls y) := hy
  have hxm := hx.few
  have hym := hy.few
  clear hp hr hx hy
  go_enter Tryd.func11, Tryd.ntmps11
  go_wp2
  go_loopw [14] (fun i wr => ∃ k : Nat, k ≤ xn ∧ i = .int .i64 k ∧ Hid (∀ p ∈ x.take k, (!Lab.coveredB ls ps y p) = false) ∧ Hid (Below w.heap.size w wr)) (fun i _ => xn - (intOf i).toNat)
  case atStart => exact ⟨0, Nat.zero_le _, rfl, by show ∀ t ∈ _, _; simp, Below.refl _ _⟩
  case round =>
    obtain ⟨k, hk, rfl, HA, HB⟩ := hrel
    by_cases hlt : k < xn
    · have hkl : k < x.length := by have := HX.out.ln; omega
      have hX := HX.out.later HB.out
      have hao := hX.pols.adr (by omega)
      have f0 := hX.pols.c0 k hkl
      obtain ⟨v, f1, hv⟩ := hX.pols.c1 k hkl
      obtain ⟨ro, rc, rn, hv0⟩ : ∃ ro rc rn, v = .slice ro rn rc := by obtain ⟨ro, _, _, rc, h, _⟩ := hv; exact ⟨ro, rc, _, h⟩
      subst hv0
      obtain ⟨p, hpk⟩ : ∃ p, p = x[k] := ⟨_, rfl⟩
      rw [← hpk] at f0 hv
      have HPK : Hid (p = x[k]) := hpk
      have HMP : Hid (p ∈ x) := by show p ∈ x; rw [hpk]; exact List.getElem_mem hkl
      obtain ⟨wy, hwy⟩ : ∃ wy, wy = wr.alloc (.cells #[.string p.1, .slice ro rn rc] 43) := ⟨_, rfl⟩
      have hby : Below wr.heap.size wr wy := by rw [hwy]; exact (Below.refl _ _).alloc (Nat.le_refl _) _
      have HBY : Hid (Below w.heap.size w wy) := HB.out.trans (hby.mono HB.out.size)
      have HV : Hid (ReadersAt wy (.slice ro rn rc) p.2) := hv.later hby
      have HKB : Hid (wy.heap[wr.heap.size]? = some (.cells #[.string p.1, .slice ro rn rc] 43 (0, 0))) := by show _ = _; rw [hwy]; exact heap_at_alloc _ _ _ rfl
      have HWY : Hid (wy = wr.alloc (.cells #[.string p.1, .slice ro rn rc] 43)) := hwy
      obtain ⟨pb, hpb⟩ : ∃ pb, pb = wr.heap.size := ⟨_, rfl⟩
      rw [← hpb] at HKB
      have HPB : Hid (pb = wr.heap.size) := hpb
      clear hX hpk hby hwy hv hpb
      subst hao
      go_wp2
      rw [← HWY.out, ← HPB.out]
      obtain ⟨wq, hwq⟩ : ∃ wq, wq = wr := ⟨wr, rfl⟩
      subst hwq
      clear f0 f1 HWY HPB
      go_loopw [9, 20] (fun s i wx => ∃ j : Nat, j ≤ yn ∧ i = .int .i64 j ∧ s = .bool ((y.take j).any fun q => Lab.coversB ls ps q p) ∧ Hid (Below wy.heap.size wy wx)) (fun _ i _ => yn - (intOf i).toNat)
      case atStart => exact ⟨0, Nat.zero_le _, rfl, by simp, Below.refl _ _⟩
      case round =>
        obtain ⟨j, hj, rfl, rfl, HBx⟩ := hrel
        have HBW : Hid (Below w.heap.size w wr) := HBY.out.trans (HBx.out.mono HBY.out.size)
        by_cases hlt2 : j < yn
        · have hjl : j < y.length := by have := HY.out.ln; omega
          have hY := HY.out.later HBW.out
          have hyo := hY.pols.adr (by omega)
          have g0 := hY.pols.c0 j hjl
          obtain ⟨u, g1, hu⟩ := hY.pols.c1 j hjl
          obtain ⟨so, sc, sn, hu0⟩ : ∃ ro rc rn, u = .slice ro rn rc := by obtain ⟨ro, _, _, rc, h, _⟩ := hu; exact ⟨ro, rc, _, h⟩
          subst hu0
          obtain ⟨q, hqj⟩ : ∃ q, q = y[j] := ⟨_, rfl⟩
          rw [← hqj] at g0 hu
          have hqm : q ∈ y := by rw [hqj]; exact List.getElem_mem hjl
          obtain ⟨wv, hwv⟩ : ∃ wv, wv = wr.alloc (.cells #[.string q.1, .slice so sn sc] 43) := ⟨_, rfl⟩
          have hbv : Below wr.heap.size wr wv := by rw [hwv]; exact (Below.refl _ _).alloc (Nat.le_refl _) _
          have hcall := coversR po b off m d ls ps q p (.slice so sn sc) (.slice ro rn rc) wv (HP.out.later (HBW.out.trans (hbv.mono HBW.out.size))) HR.out (HY.out.of q hqm) (HX.out.of p HMP.out) (hu.later hbv) (HV.out.later (HBx.out.trans (hbv.mono HBx.out.size))) (HY.out.rd q hqm) (HX.out.rd p HMP.out)
          have kk : wr.heap[pb]? = some (.cells #[.string p.1, .slice ro rn rc] 43 (0, 0)) := (HBx.out.block _ (lt_of_block HKB.out)).trans HKB.out
          have c0 : wr.cell? ⟨pb, 0, none⟩ = some (.string p.1) := by simp [World.cell?, kk]
          have c1 : wr.cell? ⟨pb, 1, none⟩ = some (.slice ro rn rc) := by simp [World.cell?, kk]
          have lpb : pb < wr.heap.size := lt_of_block kk
          have HTK : Hid (((y.take (j + 1)).any fun q => Lab.coversB ls ps q p) = (((y.take j).any fun q => Lab.coversB ls ps q p) || Lab.coversB ls ps q p)) := by
            show _ = _
            rw [List.take_succ_eq_append_getElem hjl, ← hqj]; simp
          have HBV : Hid (Below wy.heap.size wy wv) := HBx.out.trans (hbv.mono HBx.out.size)
          have HWV : Hid (wv = wr.alloc (.cells #[.string q.1, .slice so sn sc] 43)) := hwv
          obtain ⟨s0, hs0⟩ : ∃ s0, s0 = (y.take j).any fun q => Lab.coversB ls ps q p := ⟨_, rfl⟩
          rw [← hs0] at HTK ⊢
          obtain ⟨t, ht⟩ : ∃ t, t = Lab.coversB ls ps q p := ⟨_, rfl⟩
          rw [← ht] at HTK hcall
          clear hs0 ht hY hqj hqm hbv hwv hu kk
          subst hyo
          cases s0 with
          | true =>
            go_wp2
            rw [← HWV.out]
            go_roundw
            case rel => exact ⟨j + 1, by omega, by go_num, by rw [HTK.out]; simp, HBV⟩
            case measure => simp [intOf]; omega
          | false =>
            go_wp2_with fail
            rw [← HWV.out]
            refine hcall.mono ?_
            rintro e w2 ⟨rfl, hb2⟩
            have HB2 : Hid (Below wy.heap.size wy w2) := HBV.out.trans (hb2.mono HBV.out.size)
            clear hb2
            go_wp2
            go_roundw
            case rel => exact ⟨j + 1, by omega, by go_num, by rw [HTK.out]; simp, HB2⟩
            case measure => simp [intOf]; omega
        · have HC : Hid (((y.take j).any fun q => Lab.coversB ls ps q p) = Lab.coveredB ls ps y p) := by
            show _ = _
            rw [List.take_of_length_le (by have := HY.out.ln; omega)]; rfl
          rw [HC.out]
          cases hcv : Lab.coveredB ls ps y p with
          | true =>
            have HF : Hid (∀ p ∈ x.take (k + 1), (!Lab.coveredB ls ps y p) = false) := none_step (t := fun p => !Lab.coveredB ls ps y p) hkl HA.out (by rw [← HPK.out]; simp [hcv])
            clear hcv HC
            go_wp2
            go_roundw
            case rel => exact ⟨k + 1, by omega, by go_num, HF, HBW⟩
            case measure => simp [intOf]; omega
          | false =>
            have HF : Hid (Lab.flowsB ls ps x y = false) := by
              show _ = _
              have : (x.any fun p => !Lab.coveredB ls ps y p) = true := List.any_eq_true.2 ⟨_, List.getElem_mem hkl, by rw [← HPK.out]; simp [hcv]⟩
              simp [Lab.flowsB, this]
            clear hcv HC
            go_wp2
            go_ret
            refine ⟨?_, HBW.out⟩
            rw [HF.out]; rfl
    · have HF : Hid (Lab.flowsB ls ps x y = true) := by
        have h := HA.out
        rw [List.take_of_length_le (by have := HX.out.ln; omega)] at h
        have : (x.any fun p => !Lab.coveredB ls ps y p) = false := List.any_eq_false.2 fun p hp => by rw [h p hp]; simp
        show _ = _
        simp [Lab.flowsB, this]
      go_wp2
      go_ret
      refine ⟨?_, HB.out⟩
      rw [HF.out]; rfl
end Go.Proofs.YtjidnkecjkngnaaDoor
