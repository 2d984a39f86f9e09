/- Contracts of solve's groups and sets: alone, has, plus, less. -/
import Derived.Test.YtpbknhhjfhpkmaaGreatDoorChecked
import Derived.Test.YtpbknhhjfhpkmaaGreatDoorGaBit
import Derived.Test.YtpbknhhjfhpkmaaGreatDoorGrow
import Derived.WalkKit
import Derived.ProofKit
import Derived.BigRegion
import Derived.Deep.DeepCutAuto
import Derived.Deep.RegionWith
import Derived.Deep.CutBlock
import Derived.Deep.WholeRow
namespace Go.Proofs.YtpbknhhjfhpkmaaGreatDoor
open Go.RowKit

theorem pow_mod8 {i : Nat} (hi : i < 8) : (2 : Int) ^ i % 256 = ((2 ^ i : Nat) : Int) := by
  have h : (2 : Nat) ^ i < 256 := Nat.lt_of_lt_of_le (Nat.pow_lt_pow_right (by omega) hi) (by decide)
  have e2 : (2 : Int) ^ i = ((2 ^ i : Nat) : Int) := by exact_mod_cast rfl
  rw [e2]
  obtain ⟨K, hK⟩ : ∃ K : Nat, K = 2 ^ i := ⟨_, rfl⟩
  rw [← hK] at h ⊢
  omega

set_option maxHeartbeats 1000000 in
theorem aloneC (i : Nat) (w : World) (hi : i < 8) : Calls Tryz.prog 77 #[.int .i64 i] w fun e w' => e = .returned (.int .u8 ((2 ^ i : Nat) : Int)) ∧ w' = w := by
  have h1 := pow_mod8 hi
  obtain ⟨K, hK⟩ : ∃ K : Int, K = ((2 ^ i : Nat) : Int) := ⟨_, rfl⟩
  rw [← hK] at h1 ⊢
  clear hK
  go_enter Tryz.func77, Tryz.ntmps77
  go_wp2
  go_ret
  refine ⟨?_, rfl⟩
  rw [← h1]; rfl
theorem bit_and_pow (g i : Nat) : (g &&& 2 ^ i ≠ 0) ↔ g.testBit i = true := by
  constructor
  · intro h
    cases hb : g.testBit i with
    | true => rfl
    | false =>
      exfalso
      apply h
      apply Nat.eq_of_testBit_eq
      intro j
      rw [Nat.testBit_and, Nat.testBit_two_pow, Nat.zero_testBit]
      by_cases e : i = j
      · subst e; simp [hb]
      · simp [e]
  · intro h e
    have : (g &&& 2 ^ i).testBit i = true := by rw [Nat.testBit_and, h, Nat.testBit_two_pow]; simp
    rw [e, Nat.zero_testBit] at this
    cases this

set_option maxHeartbeats 1000000 in
theorem hasC (g i : Nat) (w : World) (hg : g < 256) (hi : i < 8) : Calls Tryz.prog 99 #[.int .u8 (g : Int), .int .i64 i] w fun e w' => e = .returned (.bool (g.testBit i)) ∧ w' = w := by
  have hcall := aloneC i w hi
  have hp : 2 ^ i < 256 := Nat.lt_of_lt_of_le (Nat.pow_lt_pow_right (by omega) hi) (by decide)
  have ha := and8 hg hp
  have hb := bit_and_pow g i
  obtain ⟨K, hK⟩ : ∃ K : Nat, K = 2 ^ i := ⟨_, rfl⟩
  rw [← hK] at hcall ha hb
  obtain ⟨M, hM⟩ : ∃ M : Nat, M = g &&& K := ⟨_, rfl⟩
  rw [← hM] at ha hb
  cases ht : g.testBit i with
  | true =>
    have bn : ((M : Int) != 0) = true := by have := hb.2 ht; simp; omega
    have bq : ((M : Int) == 0) = false := by have := hb.2 ht; simp; omega
    clear hb ht hM hK hp
    go_enter Tryz.func99, Tryz.ntmps99
    go_wp2_with fail
    refine hcall.mono ?_
    rintro e w1 ⟨rfl, hw⟩
    have hw' := hw.symm
    subst hw'
    go_wp2
    go_ret
    exact ⟨rfl, rfl⟩
  | false =>
    have h0 : M = 0 := by
      apply Classical.byContradiction
      intro h
      rw [hb.1 h] at ht; cases ht
    have bn : ((M : Int) != 0) = false := by simp [h0]
    have bq : ((M : Int) == 0) = true := by simp [h0]
    clear hb ht hM hK hp h0
    go_enter Tryz.func99, Tryz.ntmps99
    go_wp2_with fail
    refine hcall.mono ?_
    rintro e w1 ⟨rfl, hw⟩
    have hw' := hw.symm
    subst hw'
    go_wp2
    go_ret
    exact ⟨rfl, rfl⟩

/- A set of policies as the machine holds it: a word for each owner. -/
def setA (s : Nat → Nat) : Array Value := #[.int .u64 (s 0), .int .u64 (s 1), .int .u64 (s 2), .int .u64 (s 3), .int .u64 (s 4), .int .u64 (s 5)]
theorem setA_size (s : Nat → Nat) : (setA s).size = 6 := rfl
theorem setA_at (s : Nat → Nat) {i : Nat} (hi : i < 6) : (setA s)[i]? = some (.int .u64 (s i)) := by
  match i, hi with
  | 0, _ => rfl
  | 1, _ => rfl
  | 2, _ => rfl
  | 3, _ => rfl
  | 4, _ => rfl
  | 5, _ => rfl
def SetOK (s : Nat → Nat) : Prop := ∀ i, s i < 18446744073709551616
/- The first k owners' words taken from t. -/
def upS (k : Nat) (t s : Nat → Nat) : Nat → Nat := fun i => if i < k then t i else s i
theorem setA_put (s : Nat → Nat) {i : Nat} (hi : i < 6) (v : Nat) : (setA s).set! i (.int .u64 (v : Int)) = setA (fun j => if j = i then v else s j) := by
  match i, hi with
  | 0, _ => rfl
  | 1, _ => rfl
  | 2, _ => rfl
  | 3, _ => rfl
  | 4, _ => rfl
  | 5, _ => rfl
theorem upS_step (t s : Nat → Nat) (k : Nat) : (fun j => if j = k then t k else upS k t s j) = upS (k + 1) t s := by
  funext j
  unfold upS
  by_cases h : j = k
  · subst h; simp
  · by_cases h2 : j < k
    · simp [h, h2, show j < k + 1 by omega]
    · simp [h, h2, show ¬ j < k + 1 by omega]

theorem setA_setB (s : Nat → Nat) {i : Nat} (hi : i < 6) (v : Nat) : (setA s).setIfInBounds i (.int .u64 (v : Int)) = setA (fun j => if j = i then v else s j) := by
  match i, hi with
  | 0, _ => rfl
  | 1, _ => rfl
  | 2, _ => rfl
  | 3, _ => rfl
  | 4, _ => rfl
  | 5, _ => rfl
theorem setA_one (s : Nat → Nat) : (setA s).all (·.oneCell') = true := by
  rw [Array.all_eq_true_iff_forall_mem]
  intro v hv
  simp only [setA, List.mem_toArray, List.mem_cons, List.not_mem_nil, or_false] at hv
  rcases hv with rfl | rfl | rfl | rfl | rfl | rfl <;> rfl
theorem Tryz.infoSet : (Tryz.prog.info? 54).map (·.size) = some 6 := by kernel_rfl
def SetAt (w : World) (q : Nat) (s : Nat → Nat) : Prop := w.heap[q]? = some (.cells (setA s) 54 (0, 0))
theorem SetAt.cell {w : World} {q : Nat} {s : Nat → Nat} (h : SetAt w q s) {i : Nat} (hi : i < 6) : w.cell? ⟨q, i, none⟩ = some (.int .u64 (s i)) := by
  unfold SetAt at h
  simp [World.cell?, h]
  exact setA_at s hi
theorem SetAt.free {w : World} {q : Nat} {s : Nat → Nat} (h : SetAt w q s) (x : Nat) : w.frozen? ⟨q, x, none⟩ = false := by
  unfold SetAt at h
  simp [World.frozen?, h]
theorem SetAt.set {w : World} {q : Nat} {s : Nat → Nat} (h : SetAt w q s) {i : Nat} (hi : i < 6) (v : Nat) : SetAt (w.setCell ⟨q, i, none⟩ (.int .u64 (v : Int))) q (fun j => if j = i then v else s j) := by
  unfold SetAt at h ⊢
  rw [heap_setCell_same w q _ _ _ _ h, setA_setB s hi]
theorem SetAt.later {w w' : World} {q : Nat} {s : Nat → Nat} (h : SetAt w q s) (hb : Below w.heap.size w w') : SetAt w' q s := (hb.block _ (lt_of_block h)).trans h
theorem below_setRow' {B : Nat} {a w : World} (h : Below B a w) {g : Nat} (hg : B ≤ g) (c : Array Value) : Below B a (w.setRow g c) :=
  ⟨h.os, h.tape, h.output, by simpa [World.setRow] using h.size, fun k hk => by
    rw [← h.block k hk]
    simp only [World.setRow]
    rw [Array.getElem?_modify, if_neg (by omega)]⟩
/- What plus holds: its own set, the other one, its result's block. -/
structure PsSt (w wr : World) (x t : Nat → Nat) : Prop where
  bel : Below w.heap.size w wr
  own : SetAt wr w.heap.size x
  oth : SetAt wr (w.heap.size + 1) t
  res : SetAt wr (w.heap.size + 2) (fun _ => 0)
theorem PsSt.set {w wr : World} {x t : Nat → Nat} (h : PsSt w wr x t) {i : Nat} (hi : i < 6) (v : Nat) : PsSt w (wr.setCell ⟨w.heap.size, i, none⟩ (.int .u64 (v : Int))) (fun j => if j = i then v else x j) t :=
  ⟨h.bel.setCell (by simp) _, h.own.set hi v, heap_past_set h.oth (by simp), heap_past_set h.res (by simp)⟩
theorem PsSt.drew {w wr : World} {x t : Nat → Nat} (h : PsSt w wr x t) : PsSt w wr.drew x t := ⟨⟨h.bel.os, h.bel.tape, h.bel.output, h.bel.size, h.bel.block⟩, h.own, h.oth, h.res⟩
theorem PsSt.drewN {w wr : World} {x t : Nat → Nat} (h : PsSt w wr x t) (n : Nat) : PsSt w (wr.drewN n) x t := ⟨⟨h.bel.os, h.bel.tape, h.bel.output, h.bel.size, h.bel.block⟩, h.own, h.oth, h.res⟩
theorem setA_congr {s t : Nat → Nat} (h : ∀ i, i < 6 → s i = t i) : setA s = setA t := by
  unfold setA
  rw [h 0 (by omega), h 1 (by omega), h 2 (by omega), h 3 (by omega), h 4 (by omega), h 5 (by omega)]

set_option maxRecDepth 100000 in
set_option maxHeartbeats 2000000 in
theorem plusC (s t : Nat → Nat) (w : World) (hs : SetOK s) (ht : SetOK t) : Calls Tryz.prog 50 #[.agg (setA s), .agg (setA t)] w fun e w' => e = .returned (.agg (setA fun i => s i ||| t i)) ∧ Below w.heap.size w w' := by
  have HS : Hid (SetOK s) := hs
  have HT : Hid (SetOK t) := ht
  have HI : Hid ((Tryz.prog.info? 54).map (·.size) = some 6) := Tryz.infoSet
  obtain ⟨wz, hwz⟩ : ∃ wz, wz = ((w.alloc (.cells (setA s) 54)).alloc (.cells (setA t) 54)).alloc (.cells (setA fun _ => 0) 54) := ⟨_, rfl⟩
  have HST : Hid (PsSt w wz (upS 0 (fun i => s i ||| t i) s) t) := by
    refine ⟨by rw [hwz]; exact (((Below.refl _ _).alloc (Nat.le_refl _) _).alloc (by simp) _).alloc (by simp; omega) _, ?_, ?_, ?_⟩
    · show wz.heap[_]? = _
      rw [hwz]; exact heap_past_alloc (heap_past_alloc (heap_at_alloc _ _ _ rfl))
    · show wz.heap[_]? = _
      rw [hwz]; exact heap_past_alloc (heap_at_alloc _ _ _ (by simp))
    · show wz.heap[_]? = _
      rw [hwz]; exact heap_at_alloc _ _ _ (by simp)
  have HWZ : Hid (wz = ((w.alloc (.cells (setA s) 54)).alloc (.cells (setA t) 54)).alloc (.cells #[.int .u64 0, .int .u64 0, .int .u64 0, .int .u64 0, .int .u64 0, .int .u64 0] 54)) := hwz
  have HE : Hid (setA (upS 6 (fun i => s i ||| t i) s) = setA fun i => s i ||| t i) := setA_congr fun i hi => by unfold upS; rw [if_pos hi]
  rw [← HE.out]
  clear hs ht hwz
  go_enter Tryz.func50, Tryz.ntmps50
  go_wp2
  rw [← HWZ.out]
  clear HWZ
  go_loopw [6] (fun i wr => ∃ k : Nat, k ≤ 6 ∧ i = .int .i64 k ∧ Hid (PsSt w wr (upS k (fun i => s i ||| t i) s) t)) (fun i _ => 6 - (intOf i).toNat)
  case atStart => exact ⟨0, Nat.zero_le _, rfl, HST⟩
  case round =>
    clear HST
    obtain ⟨k, hk, rfl, HP⟩ := hrel
    by_cases hlt : k < 6
    · have f1 := HP.out.own.cell hlt
      have f2 := HP.out.oth.cell hlt
      have z1 := HP.out.own.free k
      have l1 := lt_of_block HP.out.own
      have l2 := lt_of_block HP.out.oth
      have hx : upS k (fun i => s i ||| t i) s k = s k := by unfold upS; rw [if_neg (by omega)]
      rw [hx] at f1
      have hor := bits_or_u64_nat (s k) (t k) (HS.out k) (HT.out k)
      have hstep := upS_step (fun i => s i ||| t i) s k
      have HSTEP : Hid ((fun j => if j = k then s k ||| t k else upS k (fun i => s i ||| t i) s j) = upS (k + 1) (fun i => s i ||| t i) s) := hstep
      obtain ⟨a, ha⟩ : ∃ a, a = s k := ⟨_, rfl⟩
      obtain ⟨b, hb⟩ : ∃ b, b = t k := ⟨_, rfl⟩
      rw [← ha, ← hb] at hor HSTEP
      rw [← ha] at f1
      rw [← hb] at f2
      obtain ⟨c, hc⟩ : ∃ c, c = a ||| b := ⟨_, rfl⟩
      rw [← hc] at hor HSTEP
      have i1 : (k : Int) < 6 := by omega
      clear hx ha hb hc hstep hk
      go_wp2
      go_region
      all_goals (try go_wp2_with fail)
      all_goals go_roundw
      all_goals first
        | (refine ⟨k + 1, by omega, by go_num, ?_⟩
           show PsSt _ _ _ _
           rw [← HSTEP.out]
           repeat (first | refine PsSt.drew ?_ | refine PsSt.drewN ?_ _)
           exact HP.out.set hlt c)
        | (simp [intOf]; omega)
    · have h6 : k = 6 := by omega
      subst h6
      have hres := HP.out.res
      have hown := HP.out.own
      have l0 := lt_of_block hres
      have l1 := lt_of_block hown
      go_upto_region 6 with fail
      refine wp_region_lit ?_
      refine wpList_load_row rfl 54 _ rfl w.heap.size rfl 54 (setA (upS 6 (fun i => s i ||| t i) s)) (0, 0) _ HP.out.own Tryz.underlying54 rfl (by rw [HI.out, setA_size]) ?_
      refine wpList_store_row rfl 54 _ _ rfl (w.heap.size + 2) (setA (upS 6 (fun i => s i ||| t i) s)) rfl rfl 54 _ HP.out.res (by rw [HI.out, setA_size]) (by rw [setA_size, setA_size]) (setA_one _) ?_
      have HW : Hid ((wr.setRow (w.heap.size + 2) (setA (upS 6 (fun i => s i ||| t i) s))).heap[w.heap.size + 2]? = some (.cells (setA (upS 6 (fun i => s i ||| t i) s)) 54 (0, 0))) := setRow_heap _ _ _ _ _ _ HP.out.res
      have HB : Hid (Below w.heap.size w (wr.setRow (w.heap.size + 2) (setA (upS 6 (fun i => s i ||| t i) s)))) := below_setRow' HP.out.bel (by omega) _
      obtain ⟨wz, hwz⟩ : ∃ wz, wz = wr.setRow (w.heap.size + 2) (setA (upS 6 (fun i => s i ||| t i) s)) := ⟨_, rfl⟩
      rw [← hwz] at HW HB ⊢
      obtain ⟨TT, hTT⟩ : ∃ TT, TT = setA (upS 6 (fun i => s i ||| t i) s) := ⟨_, rfl⟩
      have HZ : Hid (TT.size = 6) := by show _ = _; rw [hTT, setA_size]
      have HTT : Hid (TT = setA (upS 6 (fun i => s i ||| t i) s)) := hTT
      rw [← hTT] at HW ⊢
      clear hwz hTT
      go_wp2_with fail
      refine bodyPost_ret (v := .agg TT) (results_cell_row rfl _ _ (w.heap.size + 2) 54 TT (0, 0) _ rfl HW.out Tryz.underlying54 rfl (by rw [HI.out, HZ.out])) rfl ⟨by rw [HTT.out], HB.out⟩

/- What less holds. -/
structure LsSt (w wr : World) (x : Nat → Nat) : Prop where
  bel : Below w.heap.size w wr
  own : SetAt wr w.heap.size x
  res : SetAt wr (w.heap.size + 1) (fun _ => 0)
theorem LsSt.set {w wr : World} {x : Nat → Nat} (h : LsSt w wr x) {i : Nat} (hi : i < 6) (v : Nat) : LsSt w (wr.setCell ⟨w.heap.size, i, none⟩ (.int .u64 (v : Int))) (fun j => if j = i then v else x j) :=
  ⟨h.bel.setCell (by simp) _, h.own.set hi v, heap_past_set h.res (by simp)⟩

set_option maxRecDepth 100000 in
set_option maxHeartbeats 2000000 in
theorem lessSetC (s : Nat → Nat) (g : Nat) (w : World) (hg : g < 256) : Calls Tryz.prog 79 #[.agg (setA s), .int .u8 (g : Int)] w fun e w' => e = .returned (.agg (setA fun i => if g.testBit i = true then 0 else s i)) ∧ Below w.heap.size w w' := by
  have HI : Hid ((Tryz.prog.info? 54).map (·.size) = some 6) := Tryz.infoSet
  have HG : Hid (g < 256) := hg
  obtain ⟨L, hL⟩ : ∃ L : Nat → Nat, L = fun i => if g.testBit i = true then 0 else s i := ⟨_, rfl⟩
  obtain ⟨wz, hwz⟩ : ∃ wz, wz = (w.alloc (.cells (setA s) 54)).alloc (.cells (setA fun _ => 0) 54) := ⟨_, rfl⟩
  have HST : Hid (LsSt w wz (upS 0 L s)) := by
    refine ⟨by rw [hwz]; exact ((Below.refl _ _).alloc (Nat.le_refl _) _).alloc (by simp) _, ?_, ?_⟩
    · show wz.heap[_]? = _
      rw [hwz]; exact heap_past_alloc (heap_at_alloc _ _ _ rfl)
    · show wz.heap[_]? = _
      rw [hwz]; exact heap_at_alloc _ _ _ (by simp)
  have HWZ : Hid (wz = (w.alloc (.cells (setA s) 54)).alloc (.cells #[.int .u64 0, .int .u64 0, .int .u64 0, .int .u64 0, .int .u64 0, .int .u64 0] 54)) := hwz
  have HE : Hid (setA (upS 6 L s) = setA L) := setA_congr fun i hi => by unfold upS; rw [if_pos hi]
  have HL : Hid (L = fun i => if g.testBit i = true then 0 else s i) := hL
  rw [← hL, ← HE.out]
  clear hg hwz hL
  go_enter Tryz.func79, Tryz.ntmps79
  go_wp2
  rw [← HWZ.out]
  clear HWZ
  go_loopw [6] (fun i wr => ∃ k : Nat, k ≤ 6 ∧ i = .int .i64 k ∧ Hid (LsSt w wr (upS k L s))) (fun i _ => 6 - (intOf i).toNat)
  case atStart => exact ⟨0, Nat.zero_le _, rfl, HST⟩
  case round =>
    clear HST
    obtain ⟨k, hk, rfl, HP⟩ := hrel
    by_cases hlt : k < 6
    · have f1 := HP.out.own.cell hlt
      have z1 := HP.out.own.free k
      have l1 := lt_of_block HP.out.own
      have hh := hasC g k wr HG.out (by omega)
      have i1 : (k : Int) < 6 := by omega
      have hstep := upS_step L s k
      cases ht : g.testBit k with
      | true =>
        rw [ht] at hh
        have hLk : L k = 0 := by rw [HL.out]; simp [ht]
        have HSTEP : Hid ((fun j => if j = k then 0 else upS k L s j) = upS (k + 1) L s) := by rw [hLk] at hstep; exact hstep
        obtain ⟨a, ha⟩ : ∃ a, a = upS k L s k := ⟨_, rfl⟩
        rw [← ha] at f1
        clear hstep hLk ht ha
        go_wp2_with fail
        refine hh.mono ?_
        rintro e w1 ⟨rfl, hw⟩
        have hw' := hw.symm
        subst hw'
        go_wp2
        go_roundw
        case rel =>
          refine ⟨k + 1, by omega, by go_num, ?_⟩
          show LsSt _ _ _
          rw [← HSTEP.out]
          exact HP.out.set hlt 0
        case measure => simp [intOf]; omega
      | false =>
        rw [ht] at hh
        have HSTEP : Hid (upS k L s = upS (k + 1) L s) := by
          show _ = _
          rw [← hstep]
          funext j
          by_cases e : j = k
          · subst e
            rw [if_pos rfl, HL.out]
            unfold upS
            rw [if_neg (by omega)]
            simp [ht]
          · rw [if_neg e]
        clear hstep ht f1 z1
        go_wp2_with fail
        refine hh.mono ?_
        rintro e w1 ⟨rfl, hw⟩
        have hw' := hw.symm
        subst hw'
        go_wp2
        go_roundw
        case rel => exact ⟨k + 1, by omega, by go_num, by rw [← HSTEP.out]; exact HP⟩
        case measure => simp [intOf]; omega
    · have h6 : k = 6 := by omega
      subst h6
      have hres := HP.out.res
      have hown := HP.out.own
      have l0 := lt_of_block hres
      have l1 := lt_of_block hown
      go_upto_region 7 with fail
      refine wp_region_lit ?_
      refine wpList_load_row rfl 54 _ rfl w.heap.size rfl 54 (setA (upS 6 L s)) (0, 0) _ HP.out.own Tryz.underlying54 rfl (by rw [HI.out, setA_size]) ?_
      refine wpList_store_row rfl 54 _ _ rfl (w.heap.size + 1) (setA (upS 6 L s)) rfl rfl 54 _ HP.out.res (by rw [HI.out, setA_size]) (by rw [setA_size, setA_size]) (setA_one _) ?_
      have HW : Hid ((wr.setRow (w.heap.size + 1) (setA (upS 6 L s))).heap[w.heap.size + 1]? = some (.cells (setA (upS 6 L s)) 54 (0, 0))) := setRow_heap _ _ _ _ _ _ HP.out.res
      have HB : Hid (Below w.heap.size w (wr.setRow (w.heap.size + 1) (setA (upS 6 L s)))) := below_setRow' HP.out.bel (by omega) _
      obtain ⟨wz, hwz⟩ : ∃ wz, wz = wr.setRow (w.heap.size + 1) (setA (upS 6 L s)) := ⟨_, rfl⟩
      rw [← hwz] at HW HB ⊢
      obtain ⟨TT, hTT⟩ : ∃ TT, TT = setA (upS 6 L s) := ⟨_, rfl⟩
      have HZ : Hid (TT.size = 6) := by show _ = _; rw [hTT, setA_size]
      have HTT : Hid (TT = setA (upS 6 L s)) := hTT
      rw [← hTT] at HW ⊢
      clear hwz hTT
      go_wp2_with fail
      refine bodyPost_ret (v := .agg TT) (results_cell_row rfl _ _ (w.heap.size + 1) 54 TT (0, 0) _ rfl HW.out Tryz.underlying54 rfl (by rw [HI.out, HZ.out])) rfl ⟨by rw [HTT.out], HB.out⟩
end Go.Proofs.YtpbknhhjfhpkmaaGreatDoor
