/- slices.Equal at rows of strings: two rows that hold the same are told to be equal. The document's SameLabel, of two labels that are the same. -/
import Derived.Test.YtpbknhhjfhpkmaaGreatDoorOwnC
import Derived.Test.YtpbknhhjfhpkmaaGreatDoorGaLabW
namespace Go.Proofs.YtpbknhhjfhpkmaaGreatDoor
open Go.RowKit

set_option maxHeartbeats 1000000 in
theorem eqStr (ao bo : Option Addr) (b off b' off' n c d : Nat) (ls : List ByteArray) (w : World) (hn : n = ls.length) (hm : n ≤ 1000) (h1 : Strs w ao b off ls) (h2 : Strs w bo b' off' ls) :
    Calls Tryz.prog 32 #[.slice ao n c, .slice bo n d] w fun e w' => e = .returned (.bool true) ∧ Below w.heap.size w w' := by
  have HL : Hid (n = ls.length) := hn
  clear hn
  go_enter Tryz.func32, Tryz.ntmps32
  go_wp2
  go_loopw [13] (fun i wr => ∃ k : Nat, k ≤ n ∧ i = .int .i64 k ∧ ∃ m, wr = w.drewN m) (fun i _ => n - (intOf i).toNat)
  case atStart => exact ⟨0, Nat.zero_le _, rfl, 0, rfl⟩
  case round =>
    obtain ⟨k, hk, rfl, m, rfl⟩ := hrel
    by_cases hlt : k < n
    · have hl0 := HL.out
      have hkl : k < ls.length := by omega
      have e1 := h1.adr (by omega)
      have e2 := h2.adr (by omega)
      have f1 := h1.cell k hkl
      have f2 := h2.cell k hkl
      obtain ⟨x, hx⟩ : ∃ x, x = ls[k] := ⟨_, rfl⟩
      rw [← hx] at f1 f2
      subst e1 e2
      clear hl0 hx
      go_wp2
      go_quiet (fail)
      go_wp2
      go_roundw
      case rel => exact ⟨k + 1, by omega, by go_num, m + nq, by simp⟩
      case measure => simp [intOf]; omega
    · go_wp2
      go_ret
      exact ⟨rfl, below_drewN _ _⟩

end Go.Proofs.YtpbknhhjfhpkmaaGreatDoor

namespace Go.Proofs.YtpbknhhjfhpkmaaGreatDoor
open Go.RowKit

set_option maxRecDepth 100000 in
set_option maxHeartbeats 2000000 in
theorem same1 (p : Pol) (u v : Value) (w : World) (hu : ReadersAt w u p.2) (hv : ReadersAt w v p.2) (h6 : p.2.length ≤ 1000) :
    Calls Tryz.prog 31 #[.agg #[.string p.1, u], .agg #[.string p.1, v]] w fun e w' => e = .returned (.bool true) ∧ Below w.heap.size w w' := by
  obtain ⟨o, rs⟩ := p
  obtain ⟨ro, rb, roff, rc, hu1, _, _, hu4⟩ := hu
  obtain ⟨ro', rb', roff', rc', hv1, _, _, hv4⟩ := hv
  subst hu1 hv1
  simp only at hu4 hv4 h6 ⊢
  obtain ⟨n, hn⟩ : ∃ n, n = rs.length := ⟨_, rfl⟩
  rw [← hn]
  obtain ⟨wz, hwz⟩ : ∃ wz, wz = (w.alloc (.cells #[.string o, .slice ro n rc] 63)).alloc (.cells #[.string o, .slice ro' n rc'] 63) := ⟨_, rfl⟩
  have hbz : Below w.heap.size w wz := by rw [hwz]; exact ((Below.refl _ _).alloc (Nat.le_refl _) _).alloc (by simp) _
  have hcall := eqStr ro ro' rb roff rb' roff' n rc rc' rs wz hn (by omega) (hu4.later hbz) (hv4.later hbz)
  have HBZ : Hid (Below w.heap.size w wz) := hbz
  have HWZ : Hid (wz = (w.alloc (.cells #[.string o, .slice ro n rc] 63)).alloc (.cells #[.string o, .slice ro' n rc'] 63)) := hwz
  clear hn hu4 hv4 h6 hbz hwz
  go_enter Tryz.func31, Tryz.ntmps31
  go_wp2_with fail
  rw [← HWZ.out]
  refine hcall.mono ?_
  rintro e w1 ⟨rfl, hb1⟩
  go_wp2
  go_ret
  exact ⟨rfl, HBZ.out.trans (hb1.mono HBZ.out.size)⟩

set_option maxRecDepth 100000 in
set_option maxHeartbeats 2000000 in
theorem equalFunc (ao bo : Option Addr) (b off b' off' n c d : Nat) (x : List Pol) (w : World) (hn : n = x.length) (hm : n ≤ 1000) (h1 : Pols w ao b off x) (h2 : Pols w bo b' off' x) (h6 : ∀ p ∈ x, p.2.length ≤ 1000) :
    Calls Tryz.prog 30 #[.slice ao n c, .slice bo n d, .func (.func 31) #[] #[]] w fun e w' => e = .returned (.bool true) ∧ Below w.heap.size w w' := by
  have HN : Hid (n = x.length) := hn
  have H1 : Hid (Pols w ao b off x) := h1
  have H2 : Hid (Pols w bo b' off' x) := h2
  have H6 : Hid (∀ p ∈ x, p.2.length ≤ 1000) := h6
  have eg : ∀ args w, (callFunc 31 args).run Tryz.prog w = .ok (.enter 31 args) w := enters_of Tryz.func31 (by kernel_rfl) rfl
  clear hn h1 h2 h6
  go_enter Tryz.func30, Tryz.ntmps30
  go_wp2
  go_loopw [17] (fun i wr => ∃ k : Nat, k ≤ n ∧ i = .int .i64 k ∧ Hid (Below w.heap.size w wr)) (fun i _ => n - (intOf i).toNat)
  case atStart => exact ⟨0, Nat.zero_le _, rfl, Below.refl _ _⟩
  case round =>
    obtain ⟨k, hk, rfl, HB⟩ := hrel
    by_cases hlt : k < n
    · have hkl : k < x.length := by have := HN.out; omega
      have hX := H1.out.later HB.out
      have hY := H2.out.later HB.out
      have hao := hX.adr (by omega)
      have hbo := hY.adr (by omega)
      have f0 := hX.c0 k hkl
      obtain ⟨pv, f1, hv⟩ := hX.c1 k hkl
      have g0 := hY.c0 k hkl
      obtain ⟨qv, g1, hq⟩ := hY.c1 k hkl
      have hs := H6.out _ (List.getElem_mem hkl)
      obtain ⟨p, hp⟩ : ∃ p, p = x[k] := ⟨_, rfl⟩
      rw [← hp] at f0 hv g0 hq hs
      obtain ⟨ro, rc, rn, hv0⟩ : ∃ ro rc rn, pv = .slice ro rn rc := by obtain ⟨ro, _, _, rc, h, _⟩ := hv; exact ⟨ro, rc, _, h⟩
      obtain ⟨so, sc, sn, hq0⟩ : ∃ ro rc rn, qv = .slice ro rn rc := by obtain ⟨ro, _, _, rc, h, _⟩ := hq; exact ⟨ro, rc, _, h⟩
      subst hv0 hq0
      obtain ⟨wz, hwz⟩ : ∃ wz, wz = (wr.alloc (.cells #[.string p.1, .slice ro rn rc] 63)).alloc (.cells #[.string p.1, .slice so sn sc] 63) := ⟨_, rfl⟩
      have hbz : Below wr.heap.size wr wz := by rw [hwz]; exact ((Below.refl _ _).alloc (Nat.le_refl _) _).alloc (by simp) _
      have hcall := same1 p (.slice ro rn rc) (.slice so sn sc) wz (hv.later hbz) (hq.later hbz) hs
      have HBZ : Hid (Below wr.heap.size wr wz) := hbz
      have HWZ : Hid (wz = (wr.alloc (.cells #[.string p.1, .slice ro rn rc] 63)).alloc (.cells #[.string p.1, .slice so sn sc] 63)) := hwz
      have l1 : b' < wr.heap.size := hY.lt (by omega)
      clear hX hY hp hv hq hs hbz hwz
      subst hao hbo
      go_wp2_with fail
      rw [← HWZ.out]
      refine hcall.mono ?_
      rintro e w1 ⟨rfl, hb1⟩
      have HB1 : Hid (Below w.heap.size w w1) := HB.out.trans ((HBZ.out.trans (hb1.mono HBZ.out.size)).mono HB.out.size)
      clear hb1 hcall
      go_wp2
      go_roundw
      case rel => exact ⟨k + 1, by omega, by go_num, HB1⟩
      case measure => simp [intOf]; omega
    · have hkn : k = n := by omega
      go_wp2
      go_ret
      exact ⟨rfl, HB.out⟩

set_option maxRecDepth 100000 in
theorem sameLabel (ao bo : Option Addr) (b off b' off' n c d : Nat) (x : List Pol) (w : World) (hm : n ≤ 1000) (h1 : LabAt w ao b off n c x) (h2 : LabAt w bo b' off' n d x) (h6 : ∀ p ∈ x, p.2.length ≤ 6) :
    Calls Tryz.prog 13 #[.slice ao n c, .slice bo n d] w fun e w' => e = .returned (.bool true) ∧ Below w.heap.size w w' := by
  have hcall := equalFunc ao bo b off b' off' n c d x w h1.ln hm h1.pols h2.pols (fun p hp => by have := h6 p hp; omega)
  clear h1 h2 h6
  go_enter Tryz.func13, Tryz.ntmps13
  go_wp2_with fail
  refine hcall.mono ?_
  rintro e w1 ⟨rfl, hb1⟩
  go_wp2
  go_ret
  exact ⟨rfl, hb1⟩
end Go.Proofs.YtpbknhhjfhpkmaaGreatDoor
