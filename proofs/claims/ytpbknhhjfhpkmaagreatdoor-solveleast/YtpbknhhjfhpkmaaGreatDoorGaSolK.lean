/- Rows of bounds; contract of solve.checkOne. Contract of solve.checkOne. Contract of solve.check. -/
import Derived.Test.YtpbknhhjfhpkmaaGreatDoorGaLabW
import Derived.Test.YtpbknhhjfhpkmaaGreatDoorGaInt
import Derived.Shelf.Abstract
import Derived.Laws.EntriesVeiled
import Derived.Deep.CutBlock
import Derived.Deep.RegionWith
import Derived.Deep.DeepCutAuto
namespace Go.Proofs.YtpbknhhjfhpkmaaGreatDoor
open Go.RowKit

/- A bound as it came in: from, what is told, to, into, where, for whom. -/
structure RBd where
  src : List Int
  lab : List Pol
  dst : Int
  into : List Pol
  pos : Int
  by_ : List ByteArray
def LabVal (w : World) (v : Value) (x : List Pol) : Prop := ∃ lo lb loff ln lc, v = .slice lo ln lc ∧ LabAt w lo lb loff ln lc x
theorem LabVal.later {w w' : World} {v : Value} {x : List Pol} (h : LabVal w v x) (hb : Below w.heap.size w w') : LabVal w' v x := by
  obtain ⟨lo, lb, loff, ln, lc, h1, h2⟩ := h
  exact ⟨lo, lb, loff, ln, lc, h1, h2.later hb⟩
structure BdAt (w : World) (b off : Nat) (x : RBd) : Prop where
  c0 : ∃ v, w.cell? ⟨b, off, none⟩ = some v ∧ IntsAt w v x.src
  c1 : ∃ v, w.cell? ⟨b, off + 1, none⟩ = some v ∧ LabVal w v x.lab
  c2 : w.cell? ⟨b, off + 2, none⟩ = some (.int .i64 x.dst)
  c3 : ∃ v, w.cell? ⟨b, off + 3, none⟩ = some v ∧ LabVal w v x.into
  c4 : w.cell? ⟨b, off + 4, none⟩ = some (.int .i64 x.pos)
  c5 : ∃ v, w.cell? ⟨b, off + 5, none⟩ = some v ∧ ReadersAt w v x.by_
  lt : b < w.heap.size
theorem BdAt.later {w w' : World} {b off : Nat} {x : RBd} (h : BdAt w b off x) (hb : Below w.heap.size w w') : BdAt w' b off x := by
  obtain ⟨v0, a0, b0⟩ := h.c0
  obtain ⟨v1, a1, b1⟩ := h.c1
  obtain ⟨v3, a3, b3⟩ := h.c3
  obtain ⟨v5, a5, b5⟩ := h.c5
  exact ⟨⟨v0, (hb.cell (p := ⟨b, off, none⟩) h.lt).trans a0, b0.later hb⟩, ⟨v1, (hb.cell (p := ⟨b, off + 1, none⟩) h.lt).trans a1, b1.later hb⟩, (hb.cell (p := ⟨b, off + 2, none⟩) h.lt).trans h.c2, ⟨v3, (hb.cell (p := ⟨b, off + 3, none⟩) h.lt).trans a3, b3.later hb⟩, (hb.cell (p := ⟨b, off + 4, none⟩) h.lt).trans h.c4, ⟨v5, (hb.cell (p := ⟨b, off + 5, none⟩) h.lt).trans a5, b5.later hb⟩, Nat.lt_of_lt_of_le h.lt hb.size⟩

def noneB (n : Int) (i : Int) : Bool := decide (i < 0) || decide (n ≤ i)
def rngB (n : Int) (x : RBd) : Bool := (decide (x.dst ≠ -1) && noneB n x.dst) || decide (400 < x.src.length) || x.src.any (noneB n)
def oneE (ls : List ByteArray) (ps : List (ByteArray × ByteArray)) (n : Int) (x : RBd) : Int :=
  if rngB n x = true then 3 else if checkL ls ps x.lab = 0 then (if checkL ls ps x.into = 0 then (if 6 < x.by_.length then 2 else if x.by_.any (fun s => !Act.has ls s) = true then 5 else 0) else checkL ls ps x.into) else checkL ls ps x.lab

set_option maxHeartbeats 1000000 in
theorem noneC (q : Nat) (n i : Int) (w : World) (h : w.cell? ⟨q, 0, none⟩ = some (.int .i64 n)) : Calls Tryz.prog 81 #[.int .i64 i, .pointer (some ⟨q, 0, none⟩)] w fun e w' => e = .returned (.bool (noneB n i)) ∧ w' = w := by
  by_cases h1 : i < 0
  · have HE : Hid (noneB n i = true) := by show _ = _; unfold noneB; simp [h1]
    rw [HE.out]
    have d1 : decide (i < 0) = true := by simp [h1]
    go_enter Tryz.func81, Tryz.ntmps81
    go_wp2
    go_ret
    exact ⟨rfl, rfl⟩
  · have d1 : decide (i < 0) = false := by simp; omega
    by_cases h2 : n ≤ i
    · have HE : Hid (noneB n i = true) := by show _ = _; unfold noneB; simp [h2]
      rw [HE.out]
      have d2 : decide (n ≤ i) = true := by simp [h2]
      go_enter Tryz.func81, Tryz.ntmps81
      go_wp2
      go_ret
      exact ⟨rfl, rfl⟩
    · have HE : Hid (noneB n i = false) := by show _ = _; unfold noneB; simp; omega
      rw [HE.out]
      have d2 : decide (n ≤ i) = false := by simp; omega
      go_enter Tryz.func81, Tryz.ntmps81
      go_wp2
      go_ret
      exact ⟨rfl, rfl⟩

set_option maxHeartbeats 1000000 in
theorem strangerC (q : Nat) (ao : Option Addr) (b off n c : Nat) (ls : List ByteArray) (s : ByteArray) (w : World) (h : w.cell? ⟨q, 0, none⟩ = some (.slice ao n c)) (hn : n = ls.length) (hm : n ≤ maxLen) (hs : Strs w ao b off ls) : Calls Tryz.prog 83 #[.string s, .pointer (some ⟨q, 0, none⟩)] w fun e w' => e = .returned (.bool (!Act.has ls s)) ∧ w' = w := by
  have hct := contains_any ao b off n c ls s w hn hm hs
  obtain ⟨t, ht⟩ : ∃ t, t = Act.has ls s := ⟨_, rfl⟩
  rw [← ht] at hct ⊢
  clear hn hm hs ht
  go_enter Tryz.func83, Tryz.ntmps83
  go_wp2_with fail
  refine hct.mono ?_
  rintro e w1 ⟨rfl, hw⟩
  have hw' := hw.symm
  subst hw'
  go_wp2
  go_ret
  exact ⟨rfl, rfl⟩
end Go.Proofs.YtpbknhhjfhpkmaaGreatDoor

namespace Go.Proofs.YtpbknhhjfhpkmaaGreatDoor
open Go.RowKit
theorem below_dq (w : World) : Below w.heap.size w w.drew := ⟨rfl, rfl, rfl, Nat.le_refl _, fun _ _ => rfl⟩

set_option maxRecDepth 100000 in
set_option maxHeartbeats 4000000 in
theorem checkOneC (ao po : Option Addr) (b off b' off' n m c d bb boff : Nat) (N : Int) (ls : List ByteArray) (ps : List (ByteArray × ByteArray)) (x : RBd) (w : World) (hc : Chiefs w ao po b off b' off' n m c ls ps) (h0 : checkF ls ps = 0) (hx : BdAt w bb boff x) :
    Calls Tryz.prog 45 #[.slice ao n c, .slice po m d, .int .i64 N, .pointer (some ⟨bb, boff, none⟩)] w fun e w' => e = .returned (.int .i64 (oneE ls ps N x)) ∧ Below w.heap.size w w' := by
  have hmf : ∀ (fn : Fn) (first cap : Array Value) (w : World), (Instr.makeFunc fn first cap).run Tryz.prog w = .ok (.func fn first cap) w := fun _ _ _ _ => rfl
  have eg : ∀ args w, (callFunc 81 args).run Tryz.prog w = .ok (.enter 81 args) w := enters_of Tryz.func81 (by kernel_rfl) rfl
  obtain ⟨wz, hwz⟩ : ∃ wz, wz = (w.alloc (.cells #[.slice ao n c] 22)).alloc (.cells #[.int .i64 N] 3) := ⟨_, rfl⟩
  have hbz : Below w.heap.size w wz := by rw [hwz]; exact ((Below.refl _ _).alloc (Nat.le_refl _) _).alloc (by simp) _
  have k0 : wz.heap[w.heap.size]? = some (.cells #[.slice ao n c] 22 (0, 0)) := by rw [hwz]; exact heap_past_alloc (heap_at_alloc _ _ _ rfl)
  have k1 : wz.heap[w.heap.size + 1]? = some (.cells #[.int .i64 N] 3 (0, 0)) := by rw [hwz]; exact heap_at_alloc _ _ _ (by simp)
  have HK : Hid (∀ W, Below wz.heap.size wz W → W.cell? ⟨w.heap.size, 0, none⟩ = some (.slice ao n c) ∧ W.cell? ⟨w.heap.size + 1, 0, none⟩ = some (.int .i64 N) ∧ w.heap.size < W.heap.size) := fun W hW => by
    have e0 := (hW.block _ (lt_of_block k0)).trans k0
    have e1 := (hW.block _ (lt_of_block k1)).trans k1
    exact ⟨by simp [World.cell?, e0], by simp [World.cell?, e1], lt_of_block e0⟩
  have HBZ : Hid (Below w.heap.size w wz) := hbz
  have HWZ : Hid (wz = (w.alloc (.cells #[.slice ao n c] 22)).alloc (.cells #[.int .i64 N] 3)) := hwz
  have HC : Hid (Chiefs wz ao po b off b' off' n m c ls ps) := hc.later hbz
  have HX : Hid (BdAt wz bb boff x) := hx.later hbz
  have HZ0 : Hid (checkF ls ps = 0) := h0
  obtain ⟨x0, x1, x2, x3, x4, x5⟩ := x
  obtain ⟨v0, f0, so, sb, soff, sc, hv0, hsl, hsi⟩ := HX.out.c0
  obtain ⟨v1, f1, lo, lb, loff, ln, lc, hv1, hl1⟩ := HX.out.c1
  have f2 := HX.out.c2
  obtain ⟨v3, f3, io, ib, ioff, iln, ilc, hv3, hl3⟩ := HX.out.c3
  obtain ⟨v5, f5, ro, rb, roff, rc, hv5, hr1, hr2, hrs⟩ := HX.out.c5
  have lbb := HX.out.lt
  subst hv0 hv1 hv3 hv5
  simp only at f0 f1 f2 f3 f5 hsl hsi hl1 hl3 hr1 hrs
  have HSI : Hid (Ints wz so sb soff x0) := hsi
  have HL1 : Hid (LabAt wz lo lb loff ln lc x1) := hl1
  have HL3 : Hid (LabAt wz io ib ioff iln ilc x3) := hl3
  have HRS : Hid (Strs wz ro rb roff x5) := hrs
  have hno := noneC (w.heap.size + 1) N x2 wz (HK.out wz (Below.refl _ _)).2.1
  have HCF : Hid (x0.length ≤ 1000 → Calls Tryz.prog 82 #[.slice so x0.length sc, .func (.func 81) #[] #[.pointer (some ⟨w.heap.size + 1, 0, none⟩)]] wz fun e w' => e = .returned (.bool (x0.any (noneB N))) ∧ Below wz.heap.size wz w') := fun h1000 =>
    containsFuncI 81 #[.pointer (some ⟨w.heap.size + 1, 0, none⟩)] eg (noneB N) so sb soff x0.length sc x0 wz rfl h1000 HSI.out (fun W s _ hW => (noneC (w.heap.size + 1) N s W (HK.out W hW).2.1).mono fun e w' ⟨h1, h2⟩ => ⟨h1, by rw [h2]; exact Below.refl _ _⟩)
  have HRB : Hid (rngB N ⟨x0, x1, x2, x3, x4, x5⟩ = ((decide (x2 ≠ -1) && noneB N x2) || decide (400 < x0.length) || x0.any (noneB N))) := rfl
  have HCEL : Hid (∀ W, Below wz.heap.size wz W → W.cell? ⟨bb, boff + 1, none⟩ = some (.slice lo ln lc) ∧ W.cell? ⟨bb, boff + 3, none⟩ = some (.slice io iln ilc) ∧ W.cell? ⟨bb, boff + 5, none⟩ = some (.slice ro x5.length rc) ∧ bb < W.heap.size) := fun W hW =>
    ⟨(hW.cell (p := ⟨bb, boff + 1, none⟩) lbb).trans f1, (hW.cell (p := ⟨bb, boff + 3, none⟩) lbb).trans f3, (hW.cell (p := ⟨bb, boff + 5, none⟩) lbb).trans f5, Nat.lt_of_lt_of_le lbb hW.size⟩
  obtain ⟨sn, hsn⟩ : ∃ sn, sn = x0.length := ⟨_, rfl⟩
  obtain ⟨rn, hrn⟩ : ∃ rn, rn = x5.length := ⟨_, rfl⟩
  rw [← hsn] at f0 hsl HCF HRB
  rw [← hrn] at f5 HCEL hr1
  have HRN : Hid (rn = x5.length) := hrn
  obtain ⟨ta, hta⟩ : ∃ t, t = noneB N x2 := ⟨_, rfl⟩
  obtain ⟨tb, htb⟩ : ∃ t, t = x0.any (noneB N) := ⟨_, rfl⟩
  rw [← hta] at hno HRB
  rw [← htb] at HCF HRB
  obtain ⟨RB, hRB⟩ : ∃ R, R = rngB N ⟨x0, x1, x2, x3, x4, x5⟩ := ⟨_, rfl⟩
  have HRE : Hid (RB = rngB N ⟨x0, x1, x2, x3, x4, x5⟩) := hRB
  rw [← hRB] at HRB
  have i1 : (sn : Int) ≤ 9223372036854775807 := by unfold maxLen at hsl; omega
  unfold maxLen at hsl
  clear hc hx h0 hbz hwz k0 k1 hsi hl1 hl3 hrs hsn hrn hta htb hRB
  go_enter Tryz.func45, Tryz.ntmps45
  go_upto_region 2 with fail
  rw [← HWZ.out]
  clear HWZ
  go_cut [42] (fun s42 wc => s42 = .bool RB ∧ Hid (Below wz.heap.size wz wc))
  case first =>
    have hA : ∀ A : Bool, A = (decide (x2 ≠ -1) && ta) → RB = (A || decide (400 < sn) || tb) := fun A e => by rw [HRB.out, e]
    by_cases h1 : x2 = -1
    · have hR := hA false (by simp [h1])
      have b1 : (x2 == -1) = true := by simp [h1]
      have b2 : (x2 != -1) = false := by simp [h1]
      by_cases h4 : 400 < sn
      · have d1 : decide ((400 : Int) < (sn : Int)) = true := by simp; omega
        have d2 : decide (400 < sn) = true := by simp; omega
        have HR' : Hid (RB = true) := by show _ = _; rw [hR, d2]; rfl
        clear hR hA
        go_wp2
        go_meet
        exact ⟨by rw [HR'.out], Below.refl _ _⟩
      · have d1 : decide ((400 : Int) < (sn : Int)) = false := by simp; omega
        have d2 : decide (400 < sn) = false := by simp; omega
        have HR' : Hid (RB = tb) := by show _ = _; rw [hR, d2]; rfl
        have hcf := HCF.out (by omega)
        clear hR hA
        go_wp2_with fail
        refine hcf.mono ?_
        rintro e w1 ⟨rfl, hb1⟩
        have HB1 : Hid (Below wz.heap.size wz w1) := hb1
        clear hb1
        go_wp2
        go_meet
        exact ⟨by rw [HR'.out], HB1⟩
    · have b1 : (x2 == -1) = false := by simp [h1]
      have b2 : (x2 != -1) = true := by simp [h1]
      cases ta with
      | true =>
        have HR' : Hid (RB = true) := by show _ = _; rw [hA true (by simp [h1])]; simp
        clear hA
        go_wp2_with fail
        refine hno.mono ?_
        rintro e w1 ⟨rfl, hw⟩
        have hw' := hw.symm
        subst hw'
        go_wp2
        go_meet
        exact ⟨by rw [HR'.out], Below.refl _ _⟩
      | false =>
        have hR := hA false (by simp)
        by_cases h4 : 400 < sn
        · have d1 : decide ((400 : Int) < (sn : Int)) = true := by simp; omega
          have d2 : decide (400 < sn) = true := by simp; omega
          have HR' : Hid (RB = true) := by show _ = _; rw [hR, d2]; rfl
          clear hR hA
          go_wp2_with fail
          refine hno.mono ?_
          rintro e w1 ⟨rfl, hw⟩
          have hw' := hw.symm
          subst hw'
          go_wp2
          go_meet
          exact ⟨by rw [HR'.out], Below.refl _ _⟩
        · have d1 : decide ((400 : Int) < (sn : Int)) = false := by simp; omega
          have d2 : decide (400 < sn) = false := by simp; omega
          have HR' : Hid (RB = tb) := by show _ = _; rw [hR, d2]; rfl
          have hcf := HCF.out (by omega)
          clear hR hA
          go_wp2_with fail
          refine hno.mono ?_
          rintro e w1 ⟨rfl, hw⟩
          have hw' := hw.symm
          subst hw'
          go_wp2_with fail
          refine hcf.mono ?_
          rintro e w1 ⟨rfl, hb1⟩
          have HB1 : Hid (Below wz.heap.size wz w1) := hb1
          clear hb1
          go_wp2
          go_meet
          exact ⟨by rw [HR'.out], HB1⟩
  case rest =>
    obtain ⟨rfl, HB1⟩ := hcut
    have HBW : Hid (Below w.heap.size w wc) := HBZ.out.trans (HB1.out.mono HBZ.out.size)
    clear HCF HRB hno f0 f1 f2 f3 f5 HSI
    cases RB with
    | true =>
      have HE : Hid (oneE ls ps N ⟨x0, x1, x2, x3, x4, x5⟩ = 3) := by show _ = _; unfold oneE; rw [if_pos HRE.out.symm]
      go_wp2
      go_ret
      refine ⟨?_, HBW.out⟩
      rw [HE.out]; rfl
    | false =>
      have HE0 : Hid (oneE ls ps N ⟨x0, x1, x2, x3, x4, x5⟩ = if checkL ls ps x1 = 0 then (if checkL ls ps x3 = 0 then (if 6 < x5.length then 2 else if x5.any (fun s => !Act.has ls s) = true then 5 else 0) else checkL ls ps x3) else checkL ls ps x1) := by show _ = _; unfold oneE; rw [if_neg (by rw [← HRE.out]; decide)]
      clear HRE
      obtain ⟨q0, q1, q2⟩ := HK.out wc HB1.out
      obtain ⟨q3, q4, q5, q6⟩ := HCEL.out wc HB1.out
      have HL : Hid (∀ W, Below wz.heap.size wz W → Calls Tryz.prog 38 #[.slice ao n c, .slice po m d, .slice lo ln lc] W fun e w' => e = .returned (.int .i64 (checkL ls ps x1)) ∧ Below wz.heap.size wz w') := fun W hW => (checkLab ao po lo b off b' off' n m c d lb loff ln lc ls ps x1 W (HC.out.later hW) (HL1.out.later hW)).mono fun e w' ⟨h1, h2⟩ => ⟨h1, hW.trans (h2.mono hW.size)⟩
      have HI : Hid (∀ W, Below wz.heap.size wz W → Calls Tryz.prog 38 #[.slice ao n c, .slice po m d, .slice io iln ilc] W fun e w' => e = .returned (.int .i64 (checkL ls ps x3)) ∧ Below wz.heap.size wz w') := fun W hW => (checkLab ao po io b off b' off' n m c d ib ioff iln ilc ls ps x3 W (HC.out.later hW) (HL3.out.later hW)).mono fun e w' ⟨h1, h2⟩ => ⟨h1, hW.trans (h2.mono hW.size)⟩
      obtain ⟨e1, he1⟩ : ∃ e, e = checkL ls ps x1 := ⟨_, rfl⟩
      obtain ⟨e3, he3⟩ : ∃ e, e = checkL ls ps x3 := ⟨_, rfl⟩
      rw [← he1] at HL HE0
      rw [← he3] at HI HE0
      clear he1 he3 HL1 HL3
      go_upto_region 4 with fail
      go_cut [10] (fun s10 wd => s10 = .int .i64 e1 ∧ Hid (Below wz.heap.size wz wd))
      case first =>
        go_region_with (go_at_call 38; refine (HL.out _ (by exact HB1.out.trans ((below_dq _).mono HB1.out.size))).mono ?_; rintro e w2 ⟨rfl, hb2⟩; have HB2 : Hid (Below wz.heap.size wz w2) := hb2; clear hb2)
        all_goals (try go_wp2_with fail)
        all_goals go_meet
        all_goals exact ⟨rfl, HB2⟩
      case rest =>
        clear HB1 HBW q0 q1 q2 q3 q4 q5 q6
        obtain ⟨rfl, HB1⟩ := hcut
        have HBW : Hid (Below w.heap.size w wc) := HBZ.out.trans (HB1.out.mono HBZ.out.size)
        by_cases h1 : e1 = 0
        · subst h1
          obtain ⟨q0, q1, q2⟩ := HK.out wc HB1.out
          obtain ⟨q3, q4, q5, q6⟩ := HCEL.out wc HB1.out
          go_upto_region 7 with fail
          go_cut [11] (fun s11 wd => s11 = .int .i64 e3 ∧ Hid (Below wz.heap.size wz wd))
          case first =>
            go_region_with (go_at_call 38; refine (HI.out _ (by exact HB1.out.trans ((below_dq _).mono HB1.out.size))).mono ?_; rintro e w2 ⟨rfl, hb2⟩; have HB2 : Hid (Below wz.heap.size wz w2) := hb2; clear hb2)
            all_goals (try go_wp2_with fail)
            all_goals go_meet
            all_goals exact ⟨rfl, HB2⟩
          case rest =>
            clear HB1 HBW q0 q1 q2 q3 q4 q5 q6
            obtain ⟨rfl, HB1⟩ := hcut
            have HBW : Hid (Below w.heap.size w wc) := HBZ.out.trans (HB1.out.mono HBZ.out.size)
            by_cases h3 : e3 = 0
            · subst h3
              obtain ⟨q0, q1, q2⟩ := HK.out wc HB1.out
              obtain ⟨q3, q4, q5, q6⟩ := HCEL.out wc HB1.out
              have hrm : rn ≤ 9223372036854775807 := by have := HRN.out; unfold maxLen at hr2; omega
              by_cases h6 : 6 < rn
              · have HEE : Hid (oneE ls ps N ⟨x0, x1, x2, x3, x4, x5⟩ = 2) := by show _ = _; rw [HE0.out, if_pos rfl, if_pos rfl, if_pos (by rw [← HRN.out]; exact h6)]
                have d1 : decide ((6 : Int) < (rn : Int)) = true := by simp; omega
                have d2 : decide (6 < rn) = true := by simp; omega
                go_wp2
                go_ret
                refine ⟨?_, HBW.out⟩
                rw [HEE.out]; rfl
              · have HEE : Hid (oneE ls ps N ⟨x0, x1, x2, x3, x4, x5⟩ = if x5.any (fun s => !Act.has ls s) = true then 5 else 0) := by show _ = _; rw [HE0.out, if_pos rfl, if_pos rfl, if_neg (by rw [← HRN.out]; exact h6)]
                have d1 : decide ((6 : Int) < (rn : Int)) = false := by simp; omega
                have d2 : decide (6 < rn) = false := by simp; omega
                have egs : ∀ args w, (callFunc 83 args).run Tryz.prog w = .ok (.enter 83 args) w := enters_of Tryz.func83 (by kernel_rfl) rfl
                have hcf := containsFuncS 83 #[.pointer (some ⟨w.heap.size, 0, none⟩)] egs (fun s => !Act.has ls s) ro rb roff rn rc x5 wc HRN.out (by omega) (HRS.out.later HB1.out) (fun W s _ hW => by
                  have hWz := HB1.out.trans (hW.mono HB1.out.size)
                  exact (strangerC w.heap.size ao b off n c ls s W (HK.out W hWz).1 HC.out.ln HC.out.mn (HC.out.later hWz).strs).mono fun e w' ⟨h1, h2⟩ => ⟨h1, by rw [h2]; exact Below.refl _ _⟩)
                obtain ⟨t, ht⟩ : ∃ t, t = x5.any fun s => !Act.has ls s := ⟨_, rfl⟩
                rw [← ht] at hcf HEE
                clear ht
                go_wp2_with fail
                refine hcf.mono ?_
                rintro e w3 ⟨rfl, hb3⟩
                have HBE : Hid (Below w.heap.size w w3) := HBW.out.trans (hb3.mono HBW.out.size)
                clear hb3 hcf
                cases t
                · go_wp2
                  go_ret
                  refine ⟨?_, HBE.out⟩
                  rw [HEE.out]; rfl
                · go_wp2
                  go_ret
                  refine ⟨?_, HBE.out⟩
                  rw [HEE.out]; rfl
            · have HEE : Hid (oneE ls ps N ⟨x0, x1, x2, x3, x4, x5⟩ = e3) := by show _ = _; rw [HE0.out, if_pos rfl, if_neg h3]
              have bn : (e3 == 0) = false := by simp [h3]
              have bb : (e3 != 0) = true := by simp [h3]
              go_wp2
              go_ret
              refine ⟨?_, HBW.out⟩
              rw [HEE.out]; rfl
        · have HEE : Hid (oneE ls ps N ⟨x0, x1, x2, x3, x4, x5⟩ = e1) := by show _ = _; rw [HE0.out, if_neg h1]
          have bn : (e1 == 0) = false := by simp [h1]
          have bb : (e1 != 0) = true := by simp [h1]
          go_wp2
          go_ret
          refine ⟨?_, HBW.out⟩
          rw [HEE.out]; rfl
end Go.Proofs.YtpbknhhjfhpkmaaGreatDoor

namespace Go.Proofs.YtpbknhhjfhpkmaaGreatDoor
open Go.RowKit

structure Bds (w : World) (ao : Option Addr) (b off : Nat) (l : List RBd) : Prop where
  adr : 0 < l.length → ao = some ⟨b, off, none⟩
  at' : ∀ k (h : k < l.length), BdAt w b (off + k * 6) l[k]
theorem Bds.later {w w' : World} {ao : Option Addr} {b off : Nat} {l : List RBd} (h : Bds w ao b off l) (hb : Below w.heap.size w w') : Bds w' ao b off l := ⟨h.adr, fun k hk => (h.at' k hk).later hb⟩
def bdsE (ls : List ByteArray) (ps : List (ByteArray × ByteArray)) (N : Int) : List RBd → Int
  | [] => 0
  | x :: r => if oneE ls ps N x = 0 then bdsE ls ps N r else oneE ls ps N x
def chkB (ls : List ByteArray) (ps : List (ByteArray × ByteArray)) (N : Int) (l : List RBd) : Int := if checkF ls ps = 0 then (if N < 0 ∨ 400 < N ∨ 400 < l.length then 2 else bdsE ls ps N l) else checkF ls ps
theorem bdsE_step {ls : List ByteArray} {ps : List (ByteArray × ByteArray)} {N : Int} {l : List RBd} {k : Nat} (hk : k < l.length) (h : oneE ls ps N l[k] = 0) : bdsE ls ps N (l.drop k) = bdsE ls ps N (l.drop (k + 1)) := by
  rw [List.drop_eq_getElem_cons hk, bdsE, if_pos h]
theorem bdsE_hit {ls : List ByteArray} {ps : List (ByteArray × ByteArray)} {N : Int} {l : List RBd} {k : Nat} (hk : k < l.length) (h : oneE ls ps N l[k] ≠ 0) : bdsE ls ps N (l.drop k) = oneE ls ps N l[k] := by
  rw [List.drop_eq_getElem_cons hk, bdsE, if_neg h]
theorem bdsE_zero {ls : List ByteArray} {ps : List (ByteArray × ByteArray)} {N : Int} : ∀ {l : List RBd}, bdsE ls ps N l = 0 → ∀ x ∈ l, oneE ls ps N x = 0
  | [], _, x, hx => by cases hx
  | y :: r, h, x, hx => by
    rw [bdsE] at h
    split at h
    · rename_i h0
      rcases List.mem_cons.1 hx with rfl | hx
      · exact h0
      · exact bdsE_zero h x hx
    · rename_i h0; exact absurd h h0

set_option maxRecDepth 100000 in
set_option maxHeartbeats 4000000 in
theorem checkBC (ao po lo : Option Addr) (b off b' off' n m c d lb loff ln lc : Nat) (N : Int) (ls : List ByteArray) (ps : List (ByteArray × ByteArray)) (l : List RBd) (w : World) (hc : Chiefs w ao po b off b' off' n m c ls ps) (hl : Bds w lo lb loff l) (hn : ln = l.length) (hm : ln ≤ maxLen) :
    Calls Tryz.prog 18 #[.slice ao n c, .slice po m d, .int .i64 N, .slice lo ln lc] w fun e w' => e = .returned (.int .i64 (chkB ls ps N l)) ∧ Below w.heap.size w w' := by
  have HC : Hid (Chiefs w ao po b off b' off' n m c ls ps) := hc
  have HL : Hid (Bds w lo lb loff l) := hl
  have HN : Hid (ln = l.length) := hn
  have hck := check_of (d := d) HC
  unfold maxLen at hm
  clear hc hl hn
  by_cases h0 : checkF ls ps = 0
  · have HZ : Hid (checkF ls ps = 0) := h0
    rw [h0] at hck
    clear h0
    by_cases hbig : N < 0 ∨ 400 < N ∨ 400 < ln
    · have HE : Hid (chkB ls ps N l = 2) := by show _ = _; unfold chkB; rw [if_pos HZ.out, if_pos (by rw [← HN.out]; exact hbig)]
      rw [HE.out]
      go_enter Tryz.func18, Tryz.ntmps18
      go_wp2_with fail
      refine hck.mono ?_
      rintro e w1 ⟨rfl, hb1⟩
      have HB1 : Hid (Below w.heap.size w w1) := hb1
      clear hb1 hck
      by_cases h1 : N < 0
      · have d1 : decide (N < 0) = true := by simp [h1]
        go_wp2
        go_ret
        exact ⟨rfl, HB1.out⟩
      · have d1 : decide (N < 0) = false := by simp; omega
        by_cases h2 : 400 < N
        · have d2 : decide (400 < N) = true := by simp [h2]
          go_wp2
          go_ret
          exact ⟨rfl, HB1.out⟩
        · have d2 : decide (400 < N) = false := by simp; omega
          have d3 : decide ((400 : Int) < (ln : Int)) = true := by simp; omega
          have d4 : decide (400 < ln) = true := by simp; omega
          go_wp2
          go_ret
          exact ⟨rfl, HB1.out⟩
    · have HE : Hid (chkB ls ps N l = bdsE ls ps N l) := by show _ = _; unfold chkB; rw [if_pos HZ.out, if_neg (by rw [← HN.out]; exact hbig)]
      rw [HE.out]
      have d1 : decide (N < 0) = false := by simp; omega
      have d2 : decide (400 < N) = false := by simp; omega
      have d3 : decide ((400 : Int) < (ln : Int)) = false := by simp; omega
      have d4 : decide (400 < ln) = false := by simp; omega
      have hl4 : ln ≤ 400 := by omega
      clear hbig HE
      go_enter Tryz.func18, Tryz.ntmps18
      go_wp2_with fail
      refine hck.mono ?_
      rintro e w1 ⟨rfl, hb1⟩
      have HB1 : Hid (Below w.heap.size w w1) := hb1
      clear hb1 hck
      go_wp2
      clear d1 d2 d3 d4
      go_loopw [31] (fun i wr => ∃ k : Nat, k ≤ ln ∧ i = .int .i64 k ∧ Hid (bdsE ls ps N (l.drop k) = bdsE ls ps N l) ∧ Hid (Below w.heap.size w wr)) (fun i _ => ln - (intOf i).toNat)
      case atStart => exact ⟨0, Nat.zero_le _, rfl, by show _ = _; simp, HB1⟩
      case round =>
        clear HB1
        obtain ⟨k, hk, rfl, HK, HB⟩ := hrel
        by_cases hlt : k < ln
        · have hkl : k < l.length := by have := HN.out; omega
          have hL := HL.out.later HB.out
          have hlo := hL.adr (by omega)
          have hco := checkOneC ao po b off b' off' n m c d lb (loff + k * 6) N ls ps l[k] wr (HC.out.later HB.out) HZ.out (hL.at' k hkl)
          have hgo := fun h => bdsE_step (ls := ls) (ps := ps) (N := N) hkl h
          have hhit := fun h => bdsE_hit (ls := ls) (ps := ps) (N := N) hkl h
          obtain ⟨e0, he0⟩ : ∃ e0, e0 = oneE ls ps N l[k] := ⟨_, rfl⟩
          rw [← he0] at hco hgo hhit
          clear hL he0
          subst hlo
          by_cases h1 : e0 = 0
          · subst h1
            have HK' : Hid (bdsE ls ps N (l.drop (k + 1)) = bdsE ls ps N l) := by show _ = _; rw [← HK.out]; exact (hgo rfl).symm
            clear hgo hhit
            go_wp2_with fail
            refine hco.mono ?_
            rintro e w2 ⟨rfl, hb2⟩
            have HB2 : Hid (Below w.heap.size w w2) := HB.out.trans (hb2.mono HB.out.size)
            clear hb2 hco
            go_wp2
            go_roundw
            case rel => exact ⟨k + 1, by omega, by go_num, HK', HB2⟩
            case measure => simp [intOf]; omega
          · have HES : Hid (bdsE ls ps N l = e0) := by show _ = _; rw [← HK.out]; exact hhit h1
            have bn : (e0 == 0) = false := by simp [h1]
            have bb : (e0 != 0) = true := by simp [h1]
            clear hgo hhit h1
            go_wp2_with fail
            refine hco.mono ?_
            rintro e w2 ⟨rfl, hb2⟩
            have HB2 : Hid (Below w.heap.size w w2) := HB.out.trans (hb2.mono HB.out.size)
            clear hb2 hco
            go_wp2
            go_ret
            refine ⟨?_, HB2.out⟩
            rw [HES.out]; rfl
        · have HES : Hid (bdsE ls ps N l = 0) := by
            have e := HK.out
            rw [List.drop_of_length_le (by have := HN.out; omega)] at e
            show _ = _
            rw [← e]; rfl
          go_wp2
          go_ret
          refine ⟨?_, HB.out⟩
          rw [HES.out]; rfl
  · have HE : Hid (chkB ls ps N l = checkF ls ps) := by show _ = _; unfold chkB; rw [if_neg h0]
    rw [HE.out]
    obtain ⟨e0, he0⟩ : ∃ e0, e0 = checkF ls ps := ⟨_, rfl⟩
    rw [← he0] at hck h0 ⊢
    have bn : (e0 == 0) = false := by simp [h0]
    have bb : (e0 != 0) = true := by simp [h0]
    clear h0 he0 HE
    go_enter Tryz.func18, Tryz.ntmps18
    go_wp2_with fail
    refine hck.mono ?_
    rintro e w1 ⟨rfl, hb1⟩
    have HB1 : Hid (Below w.heap.size w w1) := hb1
    clear hb1 hck
    go_wp2
    go_ret
    exact ⟨rfl, HB1.out⟩
end Go.Proofs.YtpbknhhjfhpkmaaGreatDoor
