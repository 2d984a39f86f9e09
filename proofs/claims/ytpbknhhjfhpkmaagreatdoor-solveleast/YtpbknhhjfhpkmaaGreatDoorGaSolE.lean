/- Contracts of solve's court: group, under, lets, names. Contracts of solve's court: lets, names. -/
import Derived.Test.YtpbknhhjfhpkmaaGreatDoorSolA
import Derived.Test.YtpbknhhjfhpkmaaGreatDoorGaSolP
import Derived.Test.YtpbknhhjfhpkmaaGreatDoorOwnC
import Derived.BigQuiet
namespace Go.Proofs.YtpbknhhjfhpkmaaGreatDoor
open Go.RowKit

/- A court's block: its chiefs, and of each who acts for it. -/
def crtA (ao : Option Addr) (n c : Nat) (A : Nat → Nat) : Array Value := #[.slice ao n c, .int .u8 (A 0), .int .u8 (A 1), .int .u8 (A 2), .int .u8 (A 3), .int .u8 (A 4), .int .u8 (A 5)]
structure CrtAt (w : World) (q : Nat) (ao : Option Addr) (n c : Nat) (A : Nat → Nat) : Prop where
  blk : w.heap[q]? = some (.cells (crtA ao n c A) 91 (0, 0))
  ok : ∀ i, A i < 64
theorem CrtAt.later {w w' : World} {q : Nat} {ao : Option Addr} {n c : Nat} {A : Nat → Nat} (h : CrtAt w q ao n c A) (hb : Below w.heap.size w w') : CrtAt w' q ao n c A := ⟨(hb.block _ (lt_of_block h.blk)).trans h.blk, h.ok⟩
theorem CrtAt.c0 {w : World} {q : Nat} {ao : Option Addr} {n c : Nat} {A : Nat → Nat} (h : CrtAt w q ao n c A) : w.cell? ⟨q, 0, none⟩ = some (.slice ao n c) := by simp [World.cell?, h.blk, crtA]
theorem CrtAt.ca {w : World} {q : Nat} {ao : Option Addr} {n c : Nat} {A : Nat → Nat} (h : CrtAt w q ao n c A) {i : Nat} (hi : i < 6) : w.cell? ⟨q, 1 + i, none⟩ = some (.int .u8 (A i)) := by
  have hb := h.blk
  match i, hi with
  | 0, _ => simp [World.cell?, hb, crtA]
  | 1, _ => simp [World.cell?, hb, crtA]
  | 2, _ => simp [World.cell?, hb, crtA]
  | 3, _ => simp [World.cell?, hb, crtA]
  | 4, _ => simp [World.cell?, hb, crtA]
  | 5, _ => simp [World.cell?, hb, crtA]

theorem grp_take {ls ns : List ByteArray} {k : Nat} (hk : k < ns.length) : Sol.grp ls (ns.take (k + 1)) = Sol.grp ls (ns.take k) ||| 2 ^ Act.pos ls ns[k] := by
  rw [List.take_succ_eq_append_getElem hk, Sol.grp_app]
  show _ ||| (2 ^ Act.pos ls ns[k] ||| 0) = _
  rw [Nat.or_zero]
theorem grp_small {ls : List ByteArray} (h6 : ls.length ≤ 6) {ns : List ByteArray} (h : ∀ s ∈ ns, s ∈ ls) : Sol.grp ls ns < 64 := Nat.lt_of_lt_of_le (Sol.grp_lt h) (Nat.pow_le_pow_right (by omega) h6)

set_option maxRecDepth 100000 in
set_option maxHeartbeats 2000000 in
theorem groupC (q : Nat) (ao no : Option Addr) (b off b' off' n c nn nc : Nat) (A : Nat → Nat) (ls ns : List ByteArray) (w : World) (hc : CrtAt w q ao n c A) (hn : n = ls.length) (h6 : n ≤ 6) (hs : Strs w ao b off ls) (hnn : nn = ns.length) (hnm : nn ≤ maxLen) (hns : Strs w no b' off' ns) (hin : ∀ s ∈ ns, s ∈ ls) :
    Calls Tryz.prog 47 #[.pointer (some ⟨q, 0, none⟩), .slice no nn nc] w fun e w' => e = .returned (.int .u8 (Sol.grp ls ns : Int)) ∧ w' = w := by
  have HN : Hid (n = ls.length) := hn
  have HS : Hid (Strs w ao b off ls) := hs
  have HNN : Hid (nn = ns.length) := hnn
  have HNS : Hid (Strs w no b' off' ns) := hns
  have HIN : Hid (∀ s ∈ ns, s ∈ ls) := hin
  have c0 := hc.c0
  have lq := lt_of_block hc.blk
  unfold maxLen at hnm
  clear hc hn hs hnn hns hin
  go_enter Tryz.func47, Tryz.ntmps47
  go_wp2
  go_loopw [5, 10] (fun g i wr => ∃ k : Nat, k ≤ nn ∧ i = .int .i64 k ∧ g = .int .u8 (Sol.grp ls (ns.take k) : Int) ∧ wr = w) (fun _ i _ => nn - (intOf i).toNat)
  case atStart => exact ⟨0, Nat.zero_le _, rfl, by simp [Sol.grp], rfl⟩
  case round =>
    obtain ⟨k, hk, rfl, hg, hw⟩ := hrel
    subst hw
    by_cases hlt : k < nn
    · have hkl : k < ns.length := by have := HNN.out; omega
      have hno := HNS.out.adr (by omega)
      have f0 := HNS.out.cell k hkl
      have hst := grp_take (ls := ls) hkl
      have hmem := HIN.out _ (List.getElem_mem hkl)
      obtain ⟨x, hx⟩ : ∃ x, x = ns[k] := ⟨_, rfl⟩
      rw [← hx] at f0 hst hmem
      have hpl := Act.pos_lt hmem
      have hix := index_any ao b off n c ls x wr HN.out (by unfold maxLen; omega) HS.out
      rw [Act.posI_mem hmem] at hix
      obtain ⟨p, hp⟩ : ∃ p, p = Act.pos ls x := ⟨_, rfl⟩
      rw [← hp] at hix hst hpl
      have hp8 : p < 8 := by have := HN.out; omega
      have hal := aloneC p wr hp8
      have hg64 : Sol.grp ls (ns.take k) < 64 := grp_small (by have := HN.out; omega) fun s hs => HIN.out s (List.mem_of_mem_take hs)
      have hpp : 2 ^ p < 64 := Nat.lt_of_lt_of_le (Nat.pow_lt_pow_right (by omega) (show p < 6 by have := HN.out; omega)) (by decide)
      obtain ⟨P, hP⟩ : ∃ P, P = 2 ^ p := ⟨_, rfl⟩
      obtain ⟨G, hG⟩ : ∃ G, G = Sol.grp ls (ns.take k) := ⟨_, rfl⟩
      rw [← hP] at hal hst hpp
      rw [← hG] at hg hst hg64
      have hor := or8 (a := G) (b := P) (by omega) (by omega)
      have HST : Hid (Sol.grp ls (ns.take (k + 1)) = G ||| P) := hst
      obtain ⟨R, hR⟩ : ∃ R, R = G ||| P := ⟨_, rfl⟩
      rw [← hR] at hor HST
      clear hx hp hP hG hst hmem hpl hR
      subst hno hg
      go_wp2_with fail
      refine hix.mono ?_
      rintro e w1 ⟨rfl, hw⟩
      have hw' := hw.symm
      subst hw'
      go_wp2_with fail
      refine hal.mono ?_
      rintro e w1 ⟨rfl, hw⟩
      have hw' := hw.symm
      subst hw'
      go_wp2
      go_roundw
      case rel => exact ⟨k + 1, by omega, by go_num, by rw [HST.out], trivial⟩
      case measure => simp [intOf]; omega
    · have HF : Hid (Sol.grp ls (ns.take k) = Sol.grp ls ns) := by
        show _ = _
        rw [List.take_of_length_le (by have := HNN.out; omega)]
      subst hg
      rw [HF.out]
      go_wp2
      go_ret
      exact ⟨rfl, rfl⟩

/- All for whom one of a group acts, among the first k. -/
def undF (A : Nat → Nat) (g : Nat) : Nat → Nat
  | 0 => 0
  | k + 1 => if A k &&& g ≠ 0 then undF A g k ||| 2 ^ k else undF A g k
theorem undF_lt (A : Nat → Nat) (g : Nat) : ∀ k, undF A g k < 2 ^ k
  | 0 => by simp [undF]
  | k + 1 => by
    have ih := undF_lt A g k
    have h1 : 2 ^ k < 2 ^ (k + 1) := Nat.pow_lt_pow_right (by omega) (by omega)
    unfold undF
    split
    · exact Nat.or_lt_two_pow (by omega) (by omega)
    · omega
theorem undF_bit (A : Nat → Nat) (g i : Nat) : ∀ k, (undF A g k).testBit i = true ↔ i < k ∧ A i &&& g ≠ 0
  | 0 => by simp [undF]
  | k + 1 => by
    have ih := undF_bit A g i k
    unfold undF
    split
    · rename_i h
      rw [Nat.testBit_or, Nat.testBit_two_pow, Bool.or_eq_true, ih, decide_eq_true_eq]
      constructor
      · rintro (⟨h1, h2⟩ | rfl)
        · exact ⟨by omega, h2⟩
        · exact ⟨by omega, h⟩
      · rintro ⟨h1, h2⟩
        by_cases e : k = i
        · exact .inr e
        · exact .inl ⟨by omega, h2⟩
    · rename_i h
      rw [ih]
      constructor
      · rintro ⟨h1, h2⟩
        exact ⟨by omega, h2⟩
      · rintro ⟨h1, h2⟩
        refine ⟨?_, h2⟩
        by_cases e : i = k
        · subst e; exact absurd h2 h
        · omega
def actA (A : Nat → Nat) : Array Value := #[.int .u8 (A 0), .int .u8 (A 1), .int .u8 (A 2), .int .u8 (A 3), .int .u8 (A 4), .int .u8 (A 5)]
theorem actA_at (A : Nat → Nat) {k : Nat} (hk : k < 6) : (actA A)[k]? = some (.int .u8 (A k)) := by
  match k, hk with
  | 0, _ => rfl
  | 1, _ => rfl
  | 2, _ => rfl
  | 3, _ => rfl
  | 4, _ => rfl
  | 5, _ => rfl
theorem ixAct (A : Nat → Nat) {k : Nat} (hk : k < 6) (w : World) : (Instr.index 89 (.agg (actA A)) (.int .i64 k)).run Tryz.prog w = .ok (.int .u8 (A k)) w := by
  have hv := actA_at A hk
  simp [Instr.index, asIntOf, run_underlying Tryz.underlying89, part, go_sem, hv]
  omega
theorem CrtAt.all {w : World} {q : Nat} {ao : Option Addr} {n c : Nat} {A : Nat → Nat} (h : CrtAt w q ao n c A) : w.cell? ⟨q, 1, none⟩ = some (.int .u8 (A 0)) ∧ w.cell? ⟨q, 2, none⟩ = some (.int .u8 (A 1)) ∧ w.cell? ⟨q, 3, none⟩ = some (.int .u8 (A 2)) ∧ w.cell? ⟨q, 4, none⟩ = some (.int .u8 (A 3)) ∧ w.cell? ⟨q, 5, none⟩ = some (.int .u8 (A 4)) ∧ w.cell? ⟨q, 6, none⟩ = some (.int .u8 (A 5)) :=
  ⟨h.ca (i := 0) (by omega), h.ca (i := 1) (by omega), h.ca (i := 2) (by omega), h.ca (i := 3) (by omega), h.ca (i := 4) (by omega), h.ca (i := 5) (by omega)⟩

set_option maxRecDepth 100000 in
set_option maxHeartbeats 2000000 in
theorem underC (q : Nat) (ao : Option Addr) (n c : Nat) (A : Nat → Nat) (g : Nat) (w : World) (hc : CrtAt w q ao n c A) (hg : g < 64) :
    Calls Tryz.prog 54 #[.pointer (some ⟨q, 0, none⟩), .int .u8 (g : Int)] w fun e w' => e = .returned (.int .u8 (undF A g 6 : Int)) ∧ w' = w := by
  obtain ⟨a0, a1, a2, a3, a4, a5⟩ := hc.all
  have lq := lt_of_block hc.blk
  have HOK : Hid (∀ i, A i < 64) := hc.ok
  have HIX : Hid (∀ k : Nat, k < 6 → ∀ w, (Instr.index 89 (.agg (actA A)) (.int .i64 k)).run Tryz.prog w = .ok (.int .u8 (A k)) w) := fun k hk w => ixAct A hk w
  have HA : Hid (actA A = #[.int .u8 (A 0), .int .u8 (A 1), .int .u8 (A 2), .int .u8 (A 3), .int .u8 (A 4), .int .u8 (A 5)]) := rfl
  clear hc
  go_enter Tryz.func54, Tryz.ntmps54
  go_wp2
  rw [← HA.out]
  clear a0 a1 a2 a3 a4 a5 HA
  obtain ⟨AA, hAA⟩ : ∃ AA, AA = actA A := ⟨_, rfl⟩
  rw [← hAA] at HIX ⊢
  clear hAA
  go_loopw [5, 12] (fun v i wr => ∃ k : Nat, k ≤ 6 ∧ i = .int .i64 k ∧ v = .int .u8 (undF A g k : Int) ∧ wr = w) (fun _ i _ => 6 - (intOf i).toNat)
  case atStart => exact ⟨0, Nat.zero_le _, rfl, rfl, rfl⟩
  case round =>
    obtain ⟨k, hk, rfl, hv, hw⟩ := hrel
    subst hw
    by_cases hlt : k < 6
    · have hix := HIX.out k hlt
      have hal := aloneC k wr (by omega)
      have hak := HOK.out k
      have hu := undF_lt A g k
      have hp6 : 2 ^ k < 64 := Nat.lt_of_lt_of_le (Nat.pow_lt_pow_right (by omega) hlt) (by decide)
      have hand := and8 (a := A k) (b := g) (by omega) (by omega)
      have hor := or8 (a := undF A g k) (b := 2 ^ k) (by omega) (by omega)
      have hstep : undF A g (k + 1) = if A k &&& g ≠ 0 then undF A g k ||| 2 ^ k else undF A g k := rfl
      obtain ⟨a, ha⟩ : ∃ a, a = A k := ⟨_, rfl⟩
      obtain ⟨U, hU⟩ : ∃ U, U = undF A g k := ⟨_, rfl⟩
      obtain ⟨P, hP⟩ : ∃ P, P = 2 ^ k := ⟨_, rfl⟩
      rw [← hP] at hal hor hstep
      rw [← hU] at hor hstep hv
      rw [← ha] at hix hand hstep
      obtain ⟨M, hM⟩ : ∃ M, M = a &&& g := ⟨_, rfl⟩
      rw [← hM] at hand hstep
      obtain ⟨R, hR⟩ : ∃ R, R = U ||| P := ⟨_, rfl⟩
      rw [← hR] at hor hstep
      have i1 : (k : Int) < 6 := by omega
      clear ha hU hP hM hR hu hp6 hak
      subst hv
      by_cases h0 : M = 0
      · have bn : ((M : Int) != 0) = false := by simp [h0]
        have bq : ((M : Int) == 0) = true := by simp [h0]
        have HST : Hid (undF A g (k + 1) = U) := by show _ = _; rw [hstep, if_neg (by simp [h0])]
        clear hstep h0
        go_wp2
        go_roundw
        case rel => exact ⟨k + 1, by omega, by go_num, by rw [HST.out], trivial⟩
        case measure => simp [intOf]; omega
      · have bn : ((M : Int) != 0) = true := by simp; omega
        have bq : ((M : Int) == 0) = false := by simp; omega
        have HST : Hid (undF A g (k + 1) = R) := by show _ = _; rw [hstep, if_pos h0]
        clear hstep h0
        go_wp2_with fail
        refine hal.mono ?_
        rintro e w1 ⟨rfl, hw⟩
        have hw' := hw.symm
        subst hw'
        go_wp2
        go_roundw
        case rel => exact ⟨k + 1, by omega, by go_num, by rw [HST.out], trivial⟩
        case measure => simp [intOf]; omega
    · have h6 : k = 6 := by omega
      subst h6
      subst hv
      go_wp2
      go_ret
      exact ⟨rfl, rfl⟩
end Go.Proofs.YtpbknhhjfhpkmaaGreatDoor

namespace Go.Proofs.YtpbknhhjfhpkmaaGreatDoor
open Go.RowKit

/- Whom a policy lets read, by the first k chiefs among its readers. -/
def letF (A : Nat → Nat) (o g : Nat) : Nat → Nat
  | 0 => A o
  | k + 1 => if g.testBit k = true then letF A o g k ||| A k else letF A o g k
theorem letF_lt {A : Nat → Nat} (hA : ∀ i, A i < 64) (o g : Nat) : ∀ k, letF A o g k < 64
  | 0 => hA o
  | k + 1 => by
    have ih := letF_lt hA o g k
    unfold letF
    split
    · exact Nat.or_lt_two_pow (n := 6) ih (hA k)
    · exact ih
theorem letF_bit (A : Nat → Nat) (o g j : Nat) : ∀ k, (letF A o g k).testBit j = true ↔ (A o).testBit j = true ∨ ∃ i, i < k ∧ g.testBit i = true ∧ (A i).testBit j = true
  | 0 => by simp [letF]
  | k + 1 => by
    have ih := letF_bit A o g j k
    unfold letF
    split
    · rename_i h
      rw [Nat.testBit_or, Bool.or_eq_true, ih]
      constructor
      · rintro ((h1 | ⟨i, h1, h2, h3⟩) | h1)
        · exact .inl h1
        · exact .inr ⟨i, by omega, h2, h3⟩
        · exact .inr ⟨k, by omega, h, h1⟩
      · rintro (h1 | ⟨i, h1, h2, h3⟩)
        · exact .inl (.inl h1)
        · by_cases e : i = k
          · subst e; exact .inr h3
          · exact .inl (.inr ⟨i, by omega, h2, h3⟩)
    · rename_i h
      rw [ih]
      constructor
      · rintro (h1 | ⟨i, h1, h2, h3⟩)
        · exact .inl h1
        · exact .inr ⟨i, by omega, h2, h3⟩
      · rintro (h1 | ⟨i, h1, h2, h3⟩)
        · exact .inl h1
        · refine .inr ⟨i, ?_, h2, h3⟩
          by_cases e : i = k
          · subst e; exact absurd h2 h
          · omega

set_option maxRecDepth 100000 in
set_option maxHeartbeats 2000000 in
theorem letsCt (q : Nat) (ao : Option Addr) (n c : Nat) (A : Nat → Nat) (o g : Nat) (w : World) (hc : CrtAt w q ao n c A) (ho : o < 6) (hg : g < 64) :
    Calls Tryz.prog 126 #[.pointer (some ⟨q, 0, none⟩), .agg #[.int .i64 o, .int .u8 (g : Int)]] w fun e w' => e = .returned (.int .u8 (letF A o g 6 : Int)) ∧ Below w.heap.size w w' := by
  obtain ⟨wz, hwz⟩ : ∃ wz, wz = w.alloc (.cells #[.int .i64 o, .int .u8 (g : Int)] 112) := ⟨_, rfl⟩
  have hbz : Below w.heap.size w wz := by rw [hwz]; exact (Below.refl _ _).alloc (Nat.le_refl _) _
  have kz : wz.heap[w.heap.size]? = some (.cells #[.int .i64 o, .int .u8 (g : Int)] 112 (0, 0)) := by rw [hwz]; exact heap_at_alloc _ _ _ rfl
  have hcz := hc.later hbz
  obtain ⟨a0, a1, a2, a3, a4, a5⟩ := hcz.all
  have ha := hcz.ca ho
  have lq := lt_of_block hcz.blk
  have p0 : wz.cell? ⟨w.heap.size, 0, none⟩ = some (.int .i64 o) := by simp [World.cell?, kz]
  have p1 : wz.cell? ⟨w.heap.size, 1, none⟩ = some (.int .u8 (g : Int)) := by simp [World.cell?, kz]
  have lz := lt_of_block kz
  have HOK : Hid (∀ i, A i < 64) := hc.ok
  have HBZ : Hid (Below w.heap.size w wz) := hbz
  have HWZ : Hid (wz = w.alloc (.cells #[.int .i64 o, .int .u8 (g : Int)] 112)) := hwz
  have HIX : Hid (∀ k : Nat, k < 6 → ∀ w, (Instr.index 89 (.agg (actA A)) (.int .i64 k)).run Tryz.prog w = .ok (.int .u8 (A k)) w) := fun k hk w => ixAct A hk w
  have HA : Hid (actA A = #[.int .u8 (A 0), .int .u8 (A 1), .int .u8 (A 2), .int .u8 (A 3), .int .u8 (A 4), .int .u8 (A 5)]) := rfl
  have i0 : (o : Int) < 6 := by omega
  have i0' : (o : Int) < 6 ∧ 0 ≤ (o : Int) := by omega
  clear hc hcz hbz hwz kz
  go_enter Tryz.func126, Tryz.ntmps126
  go_upto_region 1 with fail
  rw [← HWZ.out]
  clear HWZ
  go_quiet (fail)
  obtain ⟨wy, hwy⟩ : ∃ wy, wy = wz.drewN nq := ⟨_, rfl⟩
  have HBY : Hid (Below w.heap.size w wy) := by rw [hwy]; exact HBZ.out.trans ((below_drewN wz nq).mono HBZ.out.size)
  rw [← hwy]
  have hceq : ∀ p, wy.cell? p = wz.cell? p := fun p => by rw [hwy]; rfl
  have hsz : wy.heap.size = wz.heap.size := by rw [hwy]; rfl
  rw [← hceq] at a0 a1 a2 a3 a4 a5 p0 p1 ha
  rw [← hsz] at lq lz
  clear hwy hceq hsz
  go_wp2
  rw [← HA.out]
  clear a0 a1 a2 a3 a4 a5 HA ha p0
  obtain ⟨AA, hAA⟩ : ∃ AA, AA = actA A := ⟨_, rfl⟩
  rw [← hAA] at HIX ⊢
  clear hAA
  go_loopw [5, 19] (fun v i wr => ∃ k : Nat, k ≤ 6 ∧ i = .int .i64 k ∧ v = .int .u8 (letF A o g k : Int) ∧ wr = wy) (fun _ i _ => 6 - (intOf i).toNat)
  case atStart => exact ⟨0, Nat.zero_le _, rfl, rfl, rfl⟩
  case round =>
    obtain ⟨k, hk, rfl, hv, hw⟩ := hrel
    subst hw
    by_cases hlt : k < 6
    · have hix := HIX.out k hlt
      have hhs := hasC g k wr (by omega) (by omega)
      have hak := HOK.out k
      have hu := letF_lt HOK.out o g k
      have hor := or8 (a := letF A o g k) (b := A k) (by omega) (by omega)
      have hstep : letF A o g (k + 1) = if g.testBit k = true then letF A o g k ||| A k else letF A o g k := rfl
      obtain ⟨a, ha⟩ : ∃ a, a = A k := ⟨_, rfl⟩
      obtain ⟨U, hU⟩ : ∃ U, U = letF A o g k := ⟨_, rfl⟩
      rw [← ha] at hix hor hstep
      rw [← hU] at hor hstep hv
      obtain ⟨R, hR⟩ : ∃ R, R = U ||| a := ⟨_, rfl⟩
      rw [← hR] at hor hstep
      have i1 : (k : Int) < 6 := by omega
      clear ha hU hR hu hak
      subst hv
      cases ht : g.testBit k with
      | false =>
        rw [ht] at hhs hstep
        have HST : Hid (letF A o g (k + 1) = U) := hstep
        clear hstep ht
        go_wp2_with fail
        refine hhs.mono ?_
        rintro e w1 ⟨rfl, hw⟩
        have hw' := hw.symm
        subst hw'
        go_wp2
        go_roundw
        case rel => exact ⟨k + 1, by omega, by go_num, by rw [HST.out], trivial⟩
        case measure => simp [intOf]; omega
      | true =>
        rw [ht] at hhs hstep
        have HST : Hid (letF A o g (k + 1) = R) := hstep
        clear hstep ht
        go_wp2_with fail
        refine hhs.mono ?_
        rintro e w1 ⟨rfl, hw⟩
        have hw' := hw.symm
        subst hw'
        go_wp2
        go_roundw
        case rel => exact ⟨k + 1, by omega, by go_num, by rw [HST.out], trivial⟩
        case measure => simp [intOf]; omega
    · have h6 : k = 6 := by omega
      subst h6
      subst hv
      go_wp2
      go_ret
      exact ⟨rfl, HBY.out⟩

/- The names of a group. -/
def nmF (ls : List ByteArray) (g : Nat) (k : Nat) : List ByteArray := (ls.take k).filter fun s => g.testBit (Act.pos ls s)
theorem nmF_step {ls : List ByteArray} {g k : Nat} (hn : ls.Nodup) (hk : k < ls.length) : nmF ls g (k + 1) = nmF ls g k ++ (if g.testBit k = true then [ls[k]] else []) := by
  unfold nmF
  rw [List.take_succ_eq_append_getElem hk, List.filter_append]
  congr 1
  have e : Act.pos ls ls[k] = k := Act.pos_at hn hk
  cases hv : g.testBit k <;> simp [e, hv]
structure NmSt (w wr : World) (v : Value) (l : List ByteArray) : Prop where
  bel : Below w.heap.size w wr
  own : wr.ownsRow w.heap.size 9 1 v l.length (strC l)
theorem NmSt.step {w w1 w2 : World} {v v' : Value} {l : List ByteArray} {s : ByteArray} {o : Obj} (h : NmSt w w1 v l) (hown : w2.ownsRow w.heap.size 9 1 v' (l.length + 1) (strC l ++ [.string s])) (hgr : (w1.alloc o).grownBy w2 v.ownBlock) : NmSt w w2 v' (l ++ [s]) := by
  have hz : (w1.alloc o).heap.size = w1.heap.size + 1 := by simp
  have h1 := h.bel.size
  refine ⟨(h.bel.alloc (by omega) _).grown hgr (by omega) (fun k he => by have := (h.own.lt _ he).1; omega), ?_⟩
  simpa [strC] using hown

set_option maxRecDepth 100000 in
set_option maxHeartbeats 2000000 in
theorem namesCt (q : Nat) (ao : Option Addr) (b off n c : Nat) (A : Nat → Nat) (ls : List ByteArray) (g : Nat) (w : World) (hc : CrtAt w q ao n c A) (hn : n = ls.length) (h6 : n ≤ 6) (hnd : ls.Nodup) (hs : Strs w ao b off ls) (hg : g < 64) :
    Calls Tryz.prog 58 #[.pointer (some ⟨q, 0, none⟩), .int .u8 (g : Int)] w fun e w' => ∃ v, e = .returned v ∧ w'.ownsRow w.heap.size 9 1 v (Sol.names ls g).length (strC (Sol.names ls g)) ∧ Below w.heap.size w w' := by
  have c0 := hc.c0
  have lq := lt_of_block hc.blk
  have HN : Hid (n = ls.length) := hn
  have HS : Hid (Strs w ao b off ls) := hs
  have HND : Hid ls.Nodup := hnd
  clear hc hn hs hnd
  go_enter Tryz.func58, Tryz.ntmps58
  go_wp2
  clear c0
  go_loopw [5, 13] (fun v i wr => ∃ k : Nat, k ≤ n ∧ i = .int .i64 k ∧ Hid (NmSt w wr v (nmF ls g k))) (fun _ i _ => n - (intOf i).toNat)
  case atStart => exact ⟨0, Nat.zero_le _, rfl, ⟨Below.refl _ _, World.ownsRow_nil _ _ _ _⟩⟩
  case round =>
    obtain ⟨k, hk, rfl, HP⟩ := hrel
    by_cases hlt : k < n
    · have hkl : k < ls.length := by have := HN.out; omega
      have hao := HS.out.adr (by omega)
      have f0 := (HS.out.later HP.out.bel).cell k hkl
      have hst := nmF_step (g := g) HND.out hkl
      have hhs := hasC g k wr (by omega) (by omega)
      obtain ⟨x, hx⟩ : ∃ x, x = ls[k] := ⟨_, rfl⟩
      rw [← hx] at f0 hst
      obtain ⟨l, hl⟩ : ∃ l, l = nmF ls g k := ⟨_, rfl⟩
      rw [← hl] at HP hst
      have hll : l.length ≤ 6 := by
        rw [hl]
        have h1 := List.length_filter_le (fun s => g.testBit (Act.pos ls s)) (ls.take k)
        have h2 := List.length_take (i := k) (l := ls)
        unfold nmF
        omega
      obtain ⟨ov, ocap, hov⟩ := slice_of HP.out.own
      subst hov
      clear hx hl
      subst hao
      cases ht : g.testBit k with
      | false =>
        rw [ht] at hhs hst
        simp only [Bool.false_eq_true, if_false, List.append_nil] at hst
        have HST : Hid (nmF ls g (k + 1) = l) := hst
        clear hst ht
        go_wp2_with fail
        refine hhs.mono ?_
        rintro e w1 ⟨rfl, hw⟩
        have hw' := hw.symm
        subst hw'
        go_wp2
        go_roundw
        case rel => exact ⟨k + 1, by omega, by go_num, by rw [HST.out]; exact HP⟩
        case measure => simp [intOf]; omega
      | true =>
        rw [ht] at hhs hst
        simp only [if_true] at hst
        have HST : Hid (nmF ls g (k + 1) = l ++ [x]) := hst
        clear hst ht
        obtain ⟨i0, hi, hz0, hz1, hz2⟩ := info_parts Tryz.infoStr
        have HO : Hid (wr.ownsRow w.heap.size 9 1 (.slice ov l.length ocap) l.length (strC l)) := HP.out.own
        have hbig : w.heap.size ≤ wr.heap.size := HP.out.bel.size
        go_wp2_with fail
        refine hhs.mono ?_
        rintro e w1 ⟨rfl, hw⟩
        have hw' := hw.symm
        subst hw'
        go_wp2_with (at_builtin; refine wpList_append_own _ rfl _ _ 22 rfl w.heap.size 9 i0 (.string ⟨#[]⟩) 1 16 Tryz.underlying22 hi hz0 hz1 hz2 rfl (by decide) _ _ _ rfl (World.ownsRow.alloc HO.out _) ⟨wr.heap.size, 0, none⟩ 1 1 [.string x] rfl rfl ?c1 ?c2 ?c3 ?c4 ?c5 ?_)
        case c1 => exact one_new _ _ _
        case c2 => intro u hu; simp at hu; subst hu; rfl
        case c3 => unfold maxLen; omega
        case c4 => omega
        case c5 => simp; omega
        · intro v' w5 hown5 hgrow5 _
          have HNX : Hid (NmSt w w5 v' (l ++ [x])) := HP.out.step hown5 hgrow5
          clear hown5 hgrow5
          go_wp2
          go_roundw
          case rel => exact ⟨k + 1, by omega, by go_num, by rw [HST.out]; exact HNX⟩
          case measure => simp [intOf]; omega
    · have HF : Hid (nmF ls g k = Sol.names ls g) := by
        show _ = _
        unfold nmF Sol.names
        rw [List.take_of_length_le (by have := HN.out; omega)]
      go_wp2
      go_ret
      refine ⟨_, rfl, ?_, HP.out.bel⟩
      rw [← HF.out]
      exact HP.out.own
end Go.Proofs.YtpbknhhjfhpkmaaGreatDoor
