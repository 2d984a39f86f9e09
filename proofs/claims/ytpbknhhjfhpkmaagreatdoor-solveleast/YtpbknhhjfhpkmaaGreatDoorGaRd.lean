/- A region that draws its order, within the round of a range over a function: its orders are those outside a round, since no operation of it defers. Contracts of solve's court: covered, flows. -/
import Derived.RangeFuncCalls
import Derived.OrdersHeld
import Derived.Deep.RegionHeld
import Derived.OrdersIn
import Derived.Sort.BigQuietIn
import Derived.Test.YtpbknhhjfhpkmaaGreatDoorSolQ
import Derived.Test.YtpbknhhjfhpkmaaGreatDoorGaSolE
namespace Go.Proofs.YtpbknhhjfhpkmaaGreatDoor
open Go

section
variable {P : Program} {ops : Array Oper} {Q : Exit → Act → World → Prop} {md : Region.Mode} {n l : Nat}
def noDefer (ops : Array Oper) : Bool := ops.toList.all fun o => match o.op with | .defer _ => false | _ => true
theorem noDefer_at (h : noDefer ops = true) {i : Nat} {o : Oper} (ho : ops[i]? = some o) : ∀ c, o.op ≠ .defer c := by
  intro c e
  have h1 := List.all_eq_true.1 h o (by
    rw [Array.mem_toList_iff]
    exact Array.mem_of_getElem? ho)
  rw [e] at h1
  cases h1

theorem wpIn_round {o : Oper} (hd : ∀ c, o.op ≠ .defer c) {a : Act} {w : World} {K : Act → World → Prop} (h : o.wpIn Fence.wide n P a w K Q) : o.wpIn (Fence.wide.inRound l) n P a w K Q := by
  unfold Oper.wpIn at h ⊢
  refine ⟨h.1, ?_⟩
  have e : o.semAt (Fence.wide.inRound l).round a.eval = o.semAt Fence.wide.round a.eval := by
    show o.semAt (some l) a.eval = o.semAt none a.eval
    rw [Oper.semAt_some l a.eval o hd]
    rfl
  rw [e]
  exact h.2
theorem wpOpIn_round (hd : noDefer ops = true) {i : Nat} {a : Act} {w : World} {K : Act → World → Prop} (h : wpOpIn Fence.wide n P ops Q i K a w) : wpOpIn (Fence.wide.inRound l) n P ops Q i K a w := by
  unfold wpOpIn at *
  cases ho : ops[i]? with
  | none => rw [ho] at h; exact h
  | some o =>
    rw [ho] at h
    simp only at h ⊢
    split
    · rename_i hw; rw [if_pos hw] at h; exact wpIn_round (noDefer_at hd ho) h
    · rename_i hw; rw [if_neg hw] at h; exact h
theorem wpAnyIn_round (hd : noDefer ops = true) : ∀ (fuel : Nat) (listed : Array Bool) (a : Act) (w : World), wpAnyIn Fence.wide n P md ops Q fuel listed a w → wpAnyIn (Fence.wide.inRound l) n P md ops Q fuel listed a w
  | 0, _, _, _, h => h
  | fuel + 1, _, _, _, h => ⟨h.1, fun i hi => wpOpIn_round hd (wpOpIn_mono (fun a' w' h' => wpAnyIn_round hd fuel _ a' w' h') (h.2 i hi))⟩
/- A quiet region. -/
theorem wpIn_quiet_round {id : Nat} {a : Act} {w : World} {ol : List Oper} (hd : noDefer ol.toArray = true) (hm : P.follows .mixedOrders = true) (hB : Region.lexB .any ol.toArray = true)
    (h : wpQuietIn Fence.wide n P ol.toArray (fun w' => ∃ n, w' = w.drewN n) (fun a' => ∀ w', (∃ n, w' = w.drewN n) → Q .normal a' w') ol a) : (Code.region id ol.toArray true).wpIn (Fence.wide.inRound l) n P Q a w := by
  simp only [Region.lexB, Bool.and_eq_true] at hB
  refine wpIn_region_any hm (wpAnyIn_round hd _ _ _ _ (wpAnyIn_of_quiet (C := fun w' => ∃ n, w' = w.drewN n) (Q := fun a' => ∀ w', (∃ n, w' = w.drewN n) → Q .normal a' w') rfl (fun _ w' hw' h => h w' hw') _ _ _ _ ⟨1, rfl⟩ ?_))
  have := wpAnyQIn_lex (F := Fence.wide) (n := n) (C := fun w' => ∃ n, w' = w.drewN n) (md := .any) hB.1 ol 0 (Array.replicate ol.length false) a (by simp) (by simpa using hB.2) h
  simpa using this

/- From orders as they are walked outside a fence. -/
theorem wpIn_wide_of {o : Oper} {a : Act} {w : World} {K : Act → World → Prop} (h : o.wp P a w K Q) : o.wpIn Fence.wide n P a w K Q := by
  unfold Oper.wp at h
  refine ⟨fun _ _ => trivial, ?_⟩
  have e : o.semAt Fence.wide.round a.eval = execOp a.eval o := rfl
  rw [e]
  revert h
  cases (execOp a.eval o).run P w with
  | ok x w' =>
    cases x with
    | value v => exact fun h => h
    | skip => exact fun h => h
    | defer d => exact fun h => h
    | enter f args => exact fun h => ⟨fun h0 => (by cases h0), callsIn_wide.2 h⟩
    | row r args =>
      intro h
      refine ⟨fun h0 => (by cases h0), fun c cs _ => ?_⟩
      obtain ⟨v, w'', h1, h2⟩ := h c cs
      exact ⟨v, w'', h1, stepsIn_wide.2 h2⟩
    | round a b c d e => exact fun h => h.elim
    | _ => exact fun h => h.elim
  | halt x w' => cases x <;> exact fun h => h
theorem wpAnyIn_of_any (hd : noDefer ops = true) (hq : ¬ LetsOut Q) : ∀ (fuel : Nat) (listed : Array Bool) (a : Act) (w : World), wpAny P md ops Q fuel listed a w → wpAnyIn (Fence.wide.inRound l) n P md ops Q fuel listed a w
  | 0, _, _, _, h => h
  | fuel + 1, listed, a, w, h => ⟨h.1, fun i hi => wpOpIn_mono (K := wpAny P md ops Q fuel (listed.setIfInBounds i true)) (fun a' w' h' => wpAnyIn_of_any hd hq fuel _ a' w' h') (by
      have h1 := h.2 i hi
      refine wpOpIn_round hd ?_
      unfold wpOp at h1
      unfold wpOpIn
      cases ho : ops[i]? with
      | none => rw [ho] at h1; exact h1
      | some o =>
        rw [ho] at h1
        simp only at h1 ⊢
        split
        · rename_i hw
          rw [if_pos hw] at h1
          exact h1.elim wpIn_wide_of (fun h2 => absurd h2.2 hq)
        · rename_i hw
          rw [if_neg hw] at h1
          exact ⟨fun _ _ => trivial, h1⟩)⟩
theorem wpIn_held_round {S : World → Prop} {id : Nat} {a : Act} {w : World} (hd : noDefer ops = true) (hq : ¬ LetsOut Q) (hm : P.follows .mixedOrders = true) (hS : S w.drew)
    (h : S w.drew → wpAnyH P .any ops Q S ops.size (Array.replicate ops.size false) a w.drew) : (Code.region id ops true).wpIn (Fence.wide.inRound l) n P Q a w :=
  wpIn_region_any hm (wpAnyIn_of_any hd hq _ _ _ _ (wpAny_of_held _ _ _ _ (h hS)))
end
end Go.Proofs.YtpbknhhjfhpkmaaGreatDoor

namespace Go.Proofs.YtpbknhhjfhpkmaaGreatDoor
open Go.RowKit Go.Shelf

attribute [local go_sem] Oper.semAt_some

theorem CrtAt.below' {w w' : World} {q : Nat} {ao : Option Addr} {n c : Nat} {A : Nat → Nat} (h : CrtAt w q ao n c A) (hb : Below w.heap.size w w') : CrtAt w' q ao n c A := h.later hb
theorem cell_blk {w : World} {b i : Nat} {c : Array Value} {t : TypeId} {f : Nat × Nat} (h : w.heap[b]? = some (.cells c t f)) : w.cell? ⟨b, i, none⟩ = c[i]? := by simp [World.cell?, h]
theorem cell_al {w : World} {p : Addr} {v : Value} (o : Obj) (h : w.cell? p = some v) : (w.alloc o).cell? p = some v := (World.cell?_alloc_some w p o (by rw [h]; rfl)).trans h
theorem frozen_al {w : World} {p : Addr} {v : Value} {f : Bool} (o : Obj) (h : w.cell? p = some v) (hf : w.frozen? p = f) : (w.alloc o).frozen? p = f := by
  have hlt := World.block_lt_of_cell? w p h
  rw [← hf]
  simp only [World.frozen?]
  rw [Below.heap_alloc w o p.block hlt]
theorem keeps_dN (W : World) (n : Nat) : KeepsOthers W (W.drewN n) := ⟨Nat.le_refl _, fun _ _ h _ => h⟩
theorem below_dN {B : Nat} (W : World) (n : Nat) : Below B W (W.drewN n) := ⟨rfl, rfl, rfl, Nat.le_refl _, fun _ _ => rfl⟩
theorem keeps_below {W W1 : World} (h : Below W.heap.size W W1) : KeepsOthers W W1 := ⟨h.size, fun k _ hk _ => (h.block k (lt_of_block hk)).trans hk⟩
theorem cell_below {W W1 : World} {p : Addr} {v : Value} (h : Below W.heap.size W W1) (hp : W.cell? p = some v) : W1.cell? p = some v := (h.cell (World.block_lt_of_cell? W p hp)).trans hp
theorem frozen_below {W W1 : World} {p : Addr} {v : Value} (h : Below W.heap.size W W1) (hp : W.cell? p = some v) : W1.frozen? p = W.frozen? p := by
  simp only [World.frozen?]
  rw [h.block _ (World.block_lt_of_cell? W p hp)]
def letL (A : Nat → Nat) (o g : Nat) : Nat := letF A o g 6

set_option maxRecDepth 100000 in
set_option maxHeartbeats 4000000 in
theorem coveredC (q : Nat) (ao : Option Addr) (n c : Nat) (A : Nat → Nat) (p : PB) (s : Nat → Nat) (w : World) (hc : CrtAt w q ao n c A) (hs : SetOK s) (hT : TzTab w) :
    Calls Tryz.prog 78 #[.pointer (some ⟨q, 0, none⟩), .agg #[.int .i64 (p.1.1 : Int), .int .u8 (p.1.2 : Int)], .agg (setA s)] w fun e w' => e = .returned (.bool (coveredF A (letL A) p s)) ∧ Below w.heap.size w w' := by
  have ho := p.2.1
  have hg := p.2.2
  obtain ⟨o, hoo⟩ : ∃ o, o = p.1.1 := ⟨_, rfl⟩
  obtain ⟨g, hgg⟩ : ∃ g, g = p.1.2 := ⟨_, rfl⟩
  obtain ⟨R, hR⟩ : ∃ R, R = coveredF A (letL A) p s := ⟨_, rfl⟩
  rw [← hoo] at ho ⊢
  rw [← hgg] at hg ⊢
  rw [← hR]
  have HPB : Hid (o = p.1.1 ∧ g = p.1.2) := ⟨hoo, hgg⟩
  have HR : Hid (R = coveredF A (letL A) p s) := hR
  clear hoo hgg hR
  obtain ⟨wz, hwz⟩ : ∃ wz, wz = (((w.alloc (.cells #[.pointer (some ⟨q, 0, none⟩)] 46)).alloc (.cells #[.int .i64 (o : Int), .int .u8 (g : Int)] 112)).alloc (.cells (setA s) 54)).alloc (.cells #[.bool false] 4) := ⟨_, rfl⟩
  have HWZ : Hid (wz = (((w.alloc (.cells #[.pointer (some ⟨q, 0, none⟩)] 46)).alloc (.cells #[.int .i64 (o : Int), .int .u8 (g : Int)] 112)).alloc (.cells (setA s) 54)).alloc (.cells #[.bool false] 4)) := hwz
  have HBZ : Hid (Below w.heap.size w wz) := by
    show Below _ _ _
    rw [hwz]
    exact ((((Below.refl _ _).alloc (Nat.le_refl _) _).alloc (by simp) _).alloc (by simp; omega) _).alloc (by simp; omega) _
  have k0 : wz.heap[w.heap.size]? = some (.cells #[.pointer (some ⟨q, 0, none⟩)] 46 (0, 0)) := by rw [hwz]; exact heap_past_alloc (heap_past_alloc (heap_past_alloc (heap_at_alloc _ _ _ rfl)))
  have k1 : wz.heap[w.heap.size + 1]? = some (.cells #[.int .i64 (o : Int), .int .u8 (g : Int)] 112 (0, 0)) := by rw [hwz]; exact heap_past_alloc (heap_past_alloc (heap_at_alloc _ _ _ (by simp)))
  have k2 : SetAt wz (w.heap.size + 1 + 1) s := by show wz.heap[_]? = _; rw [hwz]; exact heap_past_alloc (heap_at_alloc _ _ _ (by simp))
  have k3 : wz.heap[w.heap.size + 1 + 1 + 1]? = some (.cells #[.bool false] 4 (0, 0)) := by rw [hwz]; exact heap_at_alloc _ _ _ (by simp)
  have hlets := letsCt q ao n c A o g wz (hc.later HBZ.out) ho hg
  have HA : Hid (setA s = #[.int .u64 (s 0), .int .u64 (s 1), .int .u64 (s 2), .int .u64 (s 3), .int .u64 (s 4), .int .u64 (s 5)]) := rfl
  have HK : Hid (wz.heap[w.heap.size]? = some (.cells #[.pointer (some ⟨q, 0, none⟩)] 46 (0, 0)) ∧ wz.heap[w.heap.size + 1]? = some (.cells #[.int .i64 (o : Int), .int .u8 (g : Int)] 112 (0, 0)) ∧ SetAt wz (w.heap.size + 1 + 1) s ∧ wz.heap[w.heap.size + 1 + 1 + 1]? = some (.cells #[.bool false] 4 (0, 0))) := ⟨k0, k1, k2, k3⟩
  have HC : Hid (CrtAt w q ao n c A) := hc
  have HS : Hid (SetOK s) := hs
  have HT : Hid (TzTab w) := hT
  clear hwz k0 k1 k2 k3 hc hs hT
  refine (callsIn_wide (n := 5)).1 ?_
  refine callsIn_of_wp_marks Tryz.func78 rfl trivial ?_ rfl
  simp only [Tryz.ntmps78, List.size_toArray, List.length_cons, List.length_nil, Nat.reduceAdd, Nat.reduceSub, Array.replicate_succ, Array.replicate_zero, List.push_toArray, List.append_toArray, List.nil_append, List.cons_append]
  gi_wp2
  rw [← HWZ.out]
  refine ⟨trivial, (callsIn_wide.2 hlets).mono ?_⟩
  clear HWZ
  rintro e w1 ⟨rfl, hb1⟩
  have HB1 : Hid (Below w.heap.size w w1) := HBZ.out.trans (hb1.mono HBZ.out.size)
  have K0 : w1.heap[w.heap.size]? = some (.cells #[.pointer (some ⟨q, 0, none⟩)] 46 (0, 0)) := (hb1.block _ (lt_of_block HK.out.1)).trans HK.out.1
  have K1 : w1.heap[w.heap.size + 1]? = some (.cells #[.int .i64 (o : Int), .int .u8 (g : Int)] 112 (0, 0)) := (hb1.block _ (lt_of_block HK.out.2.1)).trans HK.out.2.1
  have K2 : SetAt w1 (w.heap.size + 1 + 1) s := HK.out.2.2.1.later hb1
  have K3 : w1.heap[w.heap.size + 1 + 1 + 1]? = some (.cells #[.bool false] 4 (0, 0)) := (hb1.block _ (lt_of_block HK.out.2.2.2)).trans HK.out.2.2.2
  have s0 := K2.cell (i := 0) (by omega)
  have s1 := K2.cell (i := 1) (by omega)
  have s2 := K2.cell (i := 2) (by omega)
  have s3 := K2.cell (i := 3) (by omega)
  have s4 := K2.cell (i := 4) (by omega)
  have s5 := K2.cell (i := 5) (by omega)
  have l2 := lt_of_block K2
  have l3 := lt_of_block K3
  have HL : Hid (letF A o g 6 = letL A o g ∧ letF A o g 6 < 64) := ⟨rfl, letF_lt HC.out.ok o g 6⟩
  obtain ⟨m, hm⟩ : ∃ m, m = letF A o g 6 := ⟨_, rfl⟩
  rw [← hm] at HL ⊢
  have H1 : Hid (w1.heap[w.heap.size]? = some (.cells #[.pointer (some ⟨q, 0, none⟩)] 46 (0, 0)) ∧ w1.heap[w.heap.size + 1]? = some (.cells #[.int .i64 (o : Int), .int .u8 (g : Int)] 112 (0, 0)) ∧ w1.heap[w.heap.size + 1 + 1 + 1]? = some (.cells #[.bool false] 4 (0, 0))) := ⟨K0, K1, K3⟩
  clear hb1 K0 K1 K2 K3 HK HBZ hm hlets
  gi_wp2
  rw [← HA.out]
  refine ⟨trivial, (policiesIn 4 s _).mono ?_⟩
  rintro e w2 ⟨rfl, hw2⟩
  have hsz : w2.heap.size = w1.heap.size + 1 + 1 := by rw [hw2]; simp
  have HB2 : Hid (Below w.heap.size w w2) := by
    show Below _ _ _
    rw [hw2]; exact (HB1.out.alloc HB1.out.size _).alloc (by have := HB1.out.size; simp; omega) _
  have e0 : w2.cell? ⟨w.heap.size, 0, none⟩ = some (.pointer (some ⟨q, 0, none⟩)) := by
    have : w2.heap[w.heap.size]? = some (.cells #[.pointer (some ⟨q, 0, none⟩)] 46 (0, 0)) := by rw [hw2]; exact heap_past_alloc (heap_past_alloc H1.out.1)
    simp [World.cell?, this]
  have e1 : w2.cell? ⟨w.heap.size + 1, 0, none⟩ = some (.int .i64 (o : Int)) := by
    have : w2.heap[w.heap.size + 1]? = some (.cells #[.int .i64 (o : Int), .int .u8 (g : Int)] 112 (0, 0)) := by rw [hw2]; exact heap_past_alloc (heap_past_alloc H1.out.2.1)
    simp [World.cell?, this]
  have k3 : w2.heap[w.heap.size + 1 + 1 + 1]? = some (.cells #[.bool false] 4 (0, 0)) := by rw [hw2]; exact heap_past_alloc (heap_past_alloc H1.out.2.2)
  have e3 : w2.cell? ⟨w.heap.size + 1 + 1 + 1, 0, none⟩ = some (.bool false) := by simp [World.cell?, k3]
  have e4 : w2.frozen? ⟨w.heap.size + 1 + 1 + 1, 0, none⟩ = false := by simp [World.frozen?, k3]
  have e5 : w2.cell? ⟨w1.heap.size, 0, none⟩ = some (.int .u8 (m : Int)) := by
    have : w2.heap[w1.heap.size]? = some (.cells #[.int .u8 (m : Int)] 82 (0, 0)) := by rw [hw2]; exact heap_past_alloc (heap_at_alloc _ _ _ rfl)
    simp [World.cell?, this]
  have hset : SetAt w2 (w1.heap.size + 1) s := by show w2.heap[_]? = _; rw [hw2]; exact heap_at_alloc _ _ _ (by simp)
  have hszw : (w1.alloc (.cells #[.int .u8 (m : Int)] 82)).heap.size = w1.heap.size + 1 := by simp
  rw [hszw]
  have HSQ : Hid (SeqStopsK Fence.wide 4 Tryz.prog 97 #[.pointer (some ⟨w1.heap.size + 1, 0, none⟩)] (fun x : PB => #[Value.agg #[.int .i64 (x.1.1 : Int), .int .u8 (x.1.2 : Int)]]) (Below w.heap.size) (fun ys => ys = polsF s 6) (fun pre => pre <+: polsF s 6) (polsF s 6).length w2) :=
    pol_stops 4 (w1.heap.size + 1) w.heap.size s (by omega) HS.out HT.out.2 w2 hset (HT.out.later HB2.out)
  have lw : w.heap.size + 1 + 1 + 1 < w1.heap.size := l3
  clear hw2 k3 hset hszw H1 HB1 s0 s1 s2 s3 s4 s5 l2 l3 HS
  gi_wp2
  refine wpIn_rangeFunc_ownH rfl (by omega) (gf := 97) (lb := #[.pointer (some ⟨w1.heap.size + 1, 0, none⟩)]) rfl trivial (enters_of Tryz.func97 (by kernel_rfl) rfl)
    HSQ.out belowK_t (belowK_b HB2.out.size) (Below.refl _ _) (fun _ => rfl)
    (fun pre W => ((∀ x ∈ pre, covB A (letL A) p x = false) ∧ W.cell? ⟨w.heap.size, 0, none⟩ = some (.pointer (some ⟨q, 0, none⟩)) ∧ W.cell? ⟨w.heap.size + 1, 0, none⟩ = some (.int .i64 (o : Int)) ∧ W.cell? ⟨w.heap.size + 1 + 1 + 1, 0, none⟩ = some (.bool false) ∧ W.frozen? ⟨w.heap.size + 1 + 1 + 1, 0, none⟩ = false ∧ W.cell? ⟨w1.heap.size, 0, none⟩ = some (.int .u8 (m : Int))) ∧ Below w.heap.size w W)
    (fun c pre W => (c = .ret ∧ (∃ x ∈ pre, covB A (letL A) p x = true) ∧ W.cell? ⟨w.heap.size + 1 + 1 + 1, 0, none⟩ = some (.bool true)) ∧ Below w.heap.size w W)
    (OwnFrom.and (Own.from (fun s A B row hs hg hr => ⟨hs.1, cell_kept hs.2.1 hg hr, cell_kept hs.2.2.1 hg hr, cell_kept hs.2.2.2.1 hg hr, (frozen_kept hs.2.2.2.1 hg hr).trans hs.2.2.2.2.1, cell_kept hs.2.2.2.2.2 hg hr⟩) _) (ownFrom_below (Nat.le_refl _) HB2.out.size))
    (fun c => OwnFrom.and (Own.from (fun s A B row hs hg hr => ⟨hs.1, hs.2.1, cell_kept hs.2.2 hg hr⟩) _) (ownFrom_below (Nat.le_refl _) HB2.out.size))
    ⟨⟨by simp, e0, e1, e3, e4, e5⟩, HB2.out⟩
    (fun x a' W => ∃ Bx, W.cell? ⟨Bx, 0, none⟩ = some (.int .i64 (x.1.1 : Int)) ∧ W.cell? ⟨Bx, 1, none⟩ = some (.int .u8 (x.1.2 : Int)) ∧ a' = { tmps := #[.pointer (some ⟨q, 0, none⟩), .agg #[.int .i64 (o : Int), .int .u8 (g : Int)], .agg (setA s), .pointer (some ⟨w.heap.size, 0, none⟩), .pointer (some ⟨w.heap.size + 1, 0, none⟩), .pointer (some ⟨w.heap.size + 1 + 1, 0, none⟩), .pointer (some ⟨w.heap.size + 1 + 1 + 1, 0, none⟩), .pointer (some ⟨w1.heap.size, 0, none⟩), .pointer (some ⟨Bx, 0, none⟩), .pointer (some ⟨q, 0, none⟩), .agg #[.int .i64 (o : Int), .int .u8 (g : Int)], .int .u8 (m : Int), .agg (setA s), .func (.func 97) #[] #[.pointer (some ⟨w1.heap.size + 1, 0, none⟩)], .agg #[.int .i64 (x.1.1 : Int), .int .u8 (x.1.2 : Int)], undef, undef, undef, undef, undef, undef, undef, undef, undef, undef, undef, undef, undef, undef, undef, undef, undef], defers := [] })
    ?hAx ?assign ?body ?done ?stop
  case hAx =>
    intro x a'
    exact Own.from (fun s A B row hs hg hr => by obtain ⟨Bx, g1, g2, g3⟩ := hs; exact ⟨Bx, cell_kept g1 hg hr, cell_kept g2 hg hr, g3⟩) _
  case assign =>
    rintro l pre x W K ⟨⟨h1, h2, h3, h4, h5, h6⟩, h7⟩ hK
    gi_wp2
    have hn : (W.alloc (.cells #[.int .i64 (x.1.1 : Int), .int .u8 (x.1.2 : Int)] 112)).heap[W.heap.size]? = some (.cells #[.int .i64 (x.1.1 : Int), .int .u8 (x.1.2 : Int)] 112 (0, 0)) := heap_at_alloc _ _ _ rfl
    exact hK _ _ ((KeepsOthers.alloc _ _).from _) ((Below.refl _ W).alloc h7.size _) ⟨⟨h1, cell_al _ h2, cell_al _ h3, cell_al _ h4, frozen_al _ h4 h5, cell_al _ h6⟩, h7.alloc h7.size _⟩ ⟨W.heap.size, by rw [cell_blk hn]; rfl, by rw [cell_blk hn]; rfl, rfl⟩
  case body =>
    rintro l pre x a' W hl hr ⟨⟨h1, h2, h3, h4, h5, h6⟩, h7⟩ ⟨Bx, x0, x1, rfl⟩ hlt
    have hcW := HC.out.below' h7
    have ca := hcW.ca ho
    have lq := lt_of_block hcW.blk
    have hx1 := x.2.1
    have hx2 := x.2.2
    have hok := HC.out.ok o
    have hhas : ∀ W' : World, Calls Tryz.prog 99 #[.int .u8 (A o : Int), .int .i64 (x.1.1 : Int)] W' fun e w' => e = .returned (.bool ((A o).testBit x.1.1)) ∧ w' = W' := fun W' => hasC (A o) x.1.1 W' (by omega) (by omega)
    have hmx : Tryz.prog.follows .mixedOrders = true := by kernel_rfl
    have han := andnot8 (a := x.1.2) (b := m) (by omega) (by have := HL.out.2; omega)
    have HCV : Hid (covB A (letL A) p x = ((A o).testBit x.1.1 && decide (strike x.1.2 m = 0))) := by
      show _ = _
      unfold covB
      rw [← HPB.out.1, ← HPB.out.2, ← HL.out.1]
    obtain ⟨xo, hxo⟩ : ∃ xo, xo = x.1.1 := ⟨_, rfl⟩
    obtain ⟨xg, hxg⟩ : ∃ xg, xg = x.1.2 := ⟨_, rfl⟩
    obtain ⟨Ao, hAo⟩ : ∃ Ao, Ao = A o := ⟨_, rfl⟩
    rw [← hxo] at x0 hhas hx1 HCV ⊢
    rw [← hxg] at x1 han hx2 HCV ⊢
    rw [← hAo] at ca hhas hok HCV
    obtain ⟨z, hz⟩ : ∃ z, z = strike xg m := ⟨_, rfl⟩
    rw [← hz] at han HCV
    have H7 : Hid (Below w.heap.size w W) := h7
    have i0 : (o : Int) < 6 := by omega
    clear hxo hxg hAo hz h7 hcW
    cases ht : Ao.testBit xo with
    | false =>
      rw [ht] at HCV
      simp only [ht] at hhas
      clear ht
      gi_wp2
      refine wpIn_quiet_round (by kernel_rfl) hmx (by kernel_rfl) ?_
      have hfn : ∀ f, Fence.wide.fn f = True := fun _ => rfl
      repeat (gi_big_quiet_step ((gi_at_call 99; refine CallsIn.quiet_of_same (callsIn_wide.2 (hhas _)))))
      refine wpQuietIn_nil ?_
      intro _ hw'
      obtain ⟨nq, hw''⟩ := hw'
      subst hw''
      gi_wp2
      exact ⟨(keeps_dN W nq).from _, below_dN W nq, ⟨fun y hy => (List.mem_append.1 hy).elim (h1 y) (fun e => by rw [List.mem_singleton.1 e, HCV.out]; rfl), h2, h3, h4, h5, h6⟩, H7.out.trans (below_dN W nq)⟩
    | true =>
      rw [ht] at HCV
      simp only [ht] at hhas
      clear ht
      by_cases hz0 : z = 0
      · subst hz0
        gi_wp2
        refine wpIn_quiet_round (by kernel_rfl) hmx (by kernel_rfl) ?_
        have hfn : ∀ f, Fence.wide.fn f = True := fun _ => rfl
        repeat (gi_big_quiet_step ((gi_at_call 99; refine CallsIn.quiet_of_same (callsIn_wide.2 (hhas _)))))
        refine wpQuietIn_nil ?_
        intro _ hw'
        obtain ⟨nq, hw''⟩ := hw'
        subst hw''
        clear hfn
        gi_wp2
        exact ⟨((keeps_dN W nq).trans (KeepsOthers.setCell _ _ _)).from _, ⟨rfl, ⟨x, by simp, by rw [HCV.out]; rfl⟩, World.cell?_setCell_same' _ _ _ (by show (W.cell? _).isSome = true; rw [h4]; rfl)⟩, (H7.out.trans (below_dN W nq)).setCell (p := ⟨w.heap.size + 1 + 1 + 1, 0, none⟩) (by simp; omega) _⟩
      · have bq : ((z : Int) == 0) = false := by simp; omega
        gi_wp2
        refine wpIn_quiet_round (by kernel_rfl) hmx (by kernel_rfl) ?_
        have hfn : ∀ f, Fence.wide.fn f = True := fun _ => rfl
        repeat (gi_big_quiet_step ((gi_at_call 99; refine CallsIn.quiet_of_same (callsIn_wide.2 (hhas _)))))
        refine wpQuietIn_nil ?_
        intro _ hw'
        obtain ⟨nq, hw''⟩ := hw'
        subst hw''
        clear hfn
        gi_wp2
        exact ⟨(keeps_dN W nq).from _, below_dN W nq, ⟨fun y hy => (List.mem_append.1 hy).elim (h1 y) (fun e => by rw [List.mem_singleton.1 e, HCV.out]; simp [hz0]), h2, h3, h4, h5, h6⟩, H7.out.trans (below_dN W nq)⟩
  case done =>
    rintro D ys W hD rfl ⟨⟨h1, h2, h3, h4, h5, h6⟩, h7⟩ hK
    have hRf : R = false := by
      rw [HR.out]
      unfold coveredF
      rw [Bool.eq_false_iff]
      intro hany
      obtain ⟨y, hy, hc⟩ := List.any_eq_true.1 hany
      rw [h1 y hy] at hc; cases hc
    gi_wp2
    have hK' := (KeepsOthers.setCell W ⟨w.heap.size + 1 + 1 + 1, 0, none⟩ (.bool false)).same D _ hK rfl
    refine ⟨by simp, .inl ⟨_, _, rfl, run_takeDeferred hK', ?_⟩⟩
    have hc5 := cell_kept (World.cell?_setCell_same' W ⟨w.heap.size + 1 + 1 + 1, 0, none⟩ (.bool false) (by rw [h4]; rfl)) (grownBy_putObj' _ D (.deferred none)) (fun r e => by cases e; exact ⟨_, hK', rfl⟩)
    refine ⟨.bool false, ?_, by rw [hRf], (h7.setCell (p := ⟨w.heap.size + 1 + 1 + 1, 0, none⟩) (by simp; omega) _).trans (belowK_b (w := w) (Nat.le_refl _) _ D _ _ (by have := HB2.out.size; omega) hK' rfl rfl)⟩
    simp [results, Tryz.f78, go_sem, hc5]
  case stop =>
    rintro D c pre W hD hpre ⟨⟨rfl, hin, hcr⟩, hB⟩ hK
    have hRt : R = true := by
      rw [HR.out]
      unfold coveredF
      obtain ⟨y, hy, hc⟩ := hin
      exact List.any_eq_true.2 ⟨y, hpre.subset hy, hc⟩
    gi_wp2
    refine ⟨by simp, .inl ⟨_, _, rfl, run_takeDeferred hK, ?_⟩⟩
    have hc5 := cell_kept hcr (grownBy_putObj' _ D (.deferred none)) (fun r e => by cases e; exact ⟨_, hK, rfl⟩)
    refine ⟨.bool true, ?_, by rw [hRt], hB.trans (belowK_b (w := w) (Nat.le_refl _) W D _ _ (by have := HB2.out.size; omega) hK rfl rfl)⟩
    simp [results, Tryz.f78, go_sem, hc5]

def SetC (W : World) (B : Nat) (s : Nat → Nat) : Prop := ∀ i, i < 6 → W.cell? ⟨B, i, none⟩ = some (.int .u64 (s i))

set_option maxRecDepth 100000 in
set_option maxHeartbeats 4000000 in
theorem flowsCt (q : Nat) (ao : Option Addr) (n c : Nat) (A : Nat → Nat) (s t : Nat → Nat) (w : World) (hc : CrtAt w q ao n c A) (hs : SetOK s) (ht : SetOK t) (hT : TzTab w) :
    Calls Tryz.prog 41 #[.pointer (some ⟨q, 0, none⟩), .agg (setA s), .agg (setA t)] w fun e w' => e = .returned (.bool (flowsF A (letL A) s t)) ∧ Below w.heap.size w w' := by
  obtain ⟨R, hR⟩ : ∃ R, R = flowsF A (letL A) s t := ⟨_, rfl⟩
  rw [← hR]
  have HR : Hid (R = flowsF A (letL A) s t) := hR
  obtain ⟨wz, hwz⟩ : ∃ wz, wz = (((w.alloc (.cells #[.pointer (some ⟨q, 0, none⟩)] 46)).alloc (.cells (setA s) 54)).alloc (.cells (setA t) 54)).alloc (.cells #[.bool false] 4) := ⟨_, rfl⟩
  have HWZ : Hid (wz = (((w.alloc (.cells #[.pointer (some ⟨q, 0, none⟩)] 46)).alloc (.cells (setA s) 54)).alloc (.cells (setA t) 54)).alloc (.cells #[.bool false] 4)) := hwz
  have HBZ : Hid (Below w.heap.size w wz) := by
    show Below _ _ _
    rw [hwz]
    exact ((((Below.refl _ _).alloc (Nat.le_refl _) _).alloc (by simp) _).alloc (by simp; omega) _).alloc (by simp; omega) _
  have k0 : wz.heap[w.heap.size]? = some (.cells #[.pointer (some ⟨q, 0, none⟩)] 46 (0, 0)) := by rw [hwz]; exact heap_past_alloc (heap_past_alloc (heap_past_alloc (heap_at_alloc _ _ _ rfl)))
  have k1 : SetAt wz (w.heap.size + 1) s := by show wz.heap[_]? = _; rw [hwz]; exact heap_past_alloc (heap_past_alloc (heap_at_alloc _ _ _ (by simp)))
  have k2 : SetAt wz (w.heap.size + 1 + 1) t := by show wz.heap[_]? = _; rw [hwz]; exact heap_past_alloc (heap_at_alloc _ _ _ (by simp))
  have k3 : wz.heap[w.heap.size + 1 + 1 + 1]? = some (.cells #[.bool false] 4 (0, 0)) := by rw [hwz]; exact heap_at_alloc _ _ _ (by simp)
  have HA : Hid (setA s = #[.int .u64 (s 0), .int .u64 (s 1), .int .u64 (s 2), .int .u64 (s 3), .int .u64 (s 4), .int .u64 (s 5)]) := rfl
  have HAT : Hid (setA t = #[.int .u64 (t 0), .int .u64 (t 1), .int .u64 (t 2), .int .u64 (t 3), .int .u64 (t 4), .int .u64 (t 5)]) := rfl
  have s0 := k1.cell (i := 0) (by omega)
  have s1 := k1.cell (i := 1) (by omega)
  have s2 := k1.cell (i := 2) (by omega)
  have s3 := k1.cell (i := 3) (by omega)
  have s4 := k1.cell (i := 4) (by omega)
  have s5 := k1.cell (i := 5) (by omega)
  have l1 := lt_of_block k1
  have HK : Hid (wz.heap[w.heap.size]? = some (.cells #[.pointer (some ⟨q, 0, none⟩)] 46 (0, 0)) ∧ SetAt wz (w.heap.size + 1 + 1) t ∧ wz.heap[w.heap.size + 1 + 1 + 1]? = some (.cells #[.bool false] 4 (0, 0))) := ⟨k0, k2, k3⟩
  have HC : Hid (CrtAt w q ao n c A) := hc
  have HS : Hid (SetOK s) := hs
  have HT2 : Hid (SetOK t) := ht
  have HT : Hid (TzTab w) := hT
  have hszz : wz.heap.size = w.heap.size + 1 + 1 + 1 + 1 := by rw [hwz]; simp
  have HSZ : Hid (wz.heap.size = w.heap.size + 1 + 1 + 1 + 1) := hszz
  clear hwz k0 k1 k2 k3 hc hs hT ht hR hszz s0 s1 s2 s3 s4 s5 l1
  have q0 : (setA s)[0]? = some (.int .u64 (s 0)) := rfl
  have q1 : (setA s)[1]? = some (.int .u64 (s 1)) := rfl
  have q2 : (setA s)[2]? = some (.int .u64 (s 2)) := rfl
  have q3 : (setA s)[3]? = some (.int .u64 (s 3)) := rfl
  have q4 : (setA s)[4]? = some (.int .u64 (s 4)) := rfl
  have q5 : (setA s)[5]? = some (.int .u64 (s 5)) := rfl
  refine (callsIn_wide (n := 5)).1 ?_
  refine callsIn_of_wp_marks Tryz.func41 rfl trivial ?_ rfl
  simp only [Tryz.ntmps41, List.size_toArray, List.length_cons, List.length_nil, Nat.reduceAdd, Nat.reduceSub, Array.replicate_succ, Array.replicate_zero, List.push_toArray, List.append_toArray, List.nil_append, List.cons_append]
  gi_wp2
  rw [← HWZ.out]
  rw [← HA.out]
  clear HWZ q0 q1 q2 q3 q4 q5
  refine ⟨trivial, (policiesIn 4 s _).mono ?_⟩
  rintro e w2 ⟨rfl, hw2⟩
  have HB2 : Hid (Below w.heap.size w w2) := by
    show Below _ _ _
    rw [hw2]; exact HBZ.out.alloc HBZ.out.size _
  have e0 : w2.cell? ⟨w.heap.size, 0, none⟩ = some (.pointer (some ⟨q, 0, none⟩)) := by rw [hw2]; exact cell_al _ (cell_blk HK.out.1)
  have e2 : SetC w2 (w.heap.size + 1 + 1) t := fun i hi => by rw [hw2]; exact cell_al _ (HK.out.2.1.cell hi)
  have e3 : w2.cell? ⟨w.heap.size + 1 + 1 + 1, 0, none⟩ = some (.bool false) := by rw [hw2]; exact cell_al _ (cell_blk HK.out.2.2)
  have e4 : w2.frozen? ⟨w.heap.size + 1 + 1 + 1, 0, none⟩ = false := by rw [hw2]; exact frozen_al _ (cell_blk HK.out.2.2) (by simp [World.frozen?, HK.out.2.2])
  have hset : SetAt w2 wz.heap.size s := by show w2.heap[_]? = _; rw [hw2]; exact heap_at_alloc _ _ _ rfl
  have HSQ : Hid (SeqStopsK Fence.wide 4 Tryz.prog 97 #[.pointer (some ⟨wz.heap.size, 0, none⟩)] (fun x : PB => #[Value.agg #[.int .i64 (x.1.1 : Int), .int .u8 (x.1.2 : Int)]]) (Below w.heap.size) (fun ys => ys = polsF s 6) (fun pre => pre <+: polsF s 6) (polsF s 6).length w2) :=
    pol_stops 4 wz.heap.size w.heap.size s (by omega) HS.out HT.out.2 w2 hset (HT.out.later HB2.out)
  clear hw2 hset HS HK HBZ
  gi_wp2
  refine wpIn_rangeFunc_ownH rfl (by omega) (gf := 97) (lb := #[.pointer (some ⟨wz.heap.size, 0, none⟩)]) rfl trivial (enters_of Tryz.func97 (by kernel_rfl) rfl)
    HSQ.out belowK_t (belowK_b HB2.out.size) (Below.refl _ _) (fun _ => rfl)
    (fun pre W => ((∀ x ∈ pre, coveredF A (letL A) x t = true) ∧ W.cell? ⟨w.heap.size, 0, none⟩ = some (.pointer (some ⟨q, 0, none⟩)) ∧ SetC W (w.heap.size + 1 + 1) t ∧ W.cell? ⟨w.heap.size + 1 + 1 + 1, 0, none⟩ = some (.bool false) ∧ W.frozen? ⟨w.heap.size + 1 + 1 + 1, 0, none⟩ = false) ∧ Below w.heap.size w W)
    (fun c pre W => (c = .ret ∧ (∃ x ∈ pre, coveredF A (letL A) x t = false) ∧ W.cell? ⟨w.heap.size + 1 + 1 + 1, 0, none⟩ = some (.bool false)) ∧ Below w.heap.size w W)
    (OwnFrom.and (Own.from (fun s A B row hs hg hr => ⟨hs.1, cell_kept hs.2.1 hg hr, fun i hi => cell_kept (hs.2.2.1 i hi) hg hr, cell_kept hs.2.2.2.1 hg hr, (frozen_kept hs.2.2.2.1 hg hr).trans hs.2.2.2.2⟩) _) (ownFrom_below (Nat.le_refl _) HB2.out.size))
    (fun c => OwnFrom.and (Own.from (fun s A B row hs hg hr => ⟨hs.1, hs.2.1, cell_kept hs.2.2 hg hr⟩) _) (ownFrom_below (Nat.le_refl _) HB2.out.size))
    ⟨⟨by simp, e0, e2, e3, e4⟩, HB2.out⟩
    (fun x a' W => ∃ Bx, W.cell? ⟨Bx, 0, none⟩ = some (.int .i64 (x.1.1 : Int)) ∧ W.cell? ⟨Bx, 1, none⟩ = some (.int .u8 (x.1.2 : Int)) ∧ a' = { tmps := #[.pointer (some ⟨q, 0, none⟩), .agg (setA s), .agg (setA t), .pointer (some ⟨w.heap.size, 0, none⟩), .pointer (some ⟨w.heap.size + 1, 0, none⟩), .pointer (some ⟨w.heap.size + 1 + 1, 0, none⟩), .pointer (some ⟨w.heap.size + 1 + 1 + 1, 0, none⟩), .pointer (some ⟨Bx, 0, none⟩), .agg (setA s), .func (.func 97) #[] #[.pointer (some ⟨wz.heap.size, 0, none⟩)], .agg #[.int .i64 (x.1.1 : Int), .int .u8 (x.1.2 : Int)], undef, undef, undef, undef, undef], defers := [] })
    ?hAx ?assign ?body ?done ?stop
  case hAx =>
    intro x a'
    exact Own.from (fun s A B row hs hg hr => by obtain ⟨Bx, g1, g2, g3⟩ := hs; exact ⟨Bx, cell_kept g1 hg hr, cell_kept g2 hg hr, g3⟩) _
  case assign =>
    rintro l pre x W K ⟨⟨h1, h2, h3, h4, h5⟩, h7⟩ hK
    gi_wp2
    have hn : (W.alloc (.cells #[.int .i64 (x.1.1 : Int), .int .u8 (x.1.2 : Int)] 112)).heap[W.heap.size]? = some (.cells #[.int .i64 (x.1.1 : Int), .int .u8 (x.1.2 : Int)] 112 (0, 0)) := heap_at_alloc _ _ _ rfl
    exact hK _ _ ((KeepsOthers.alloc _ _).from _) ((Below.refl _ W).alloc h7.size _) ⟨⟨h1, cell_al _ h2, fun i hi => cell_al _ (h3 i hi), cell_al _ h4, frozen_al _ h4 h5⟩, h7.alloc h7.size _⟩ ⟨W.heap.size, by rw [cell_blk hn]; rfl, by rw [cell_blk hn]; rfl, rfl⟩
  case body =>
    rintro l pre x a' W hl hr ⟨⟨h1, h2, h3, h4, h5⟩, h7⟩ ⟨Bx, x0, x1, rfl⟩ hlt
    have hcov := coveredC q ao n c A x t W (HC.out.later h7) HT2.out (HT.out.later h7)
    have t0 := h3 0 (by omega)
    have t1 := h3 1 (by omega)
    have t2 := h3 2 (by omega)
    have t3 := h3 3 (by omega)
    have t4 := h3 4 (by omega)
    have t5 := h3 5 (by omega)
    have H3 : Hid (SetC W (w.heap.size + 1 + 1) t) := h3
    have H7 : Hid (Below w.heap.size w W) := h7
    have HX : Hid (coveredF A (letL A) x t = coveredF A (letL A) x t) := rfl
    obtain ⟨B, hBB⟩ : ∃ B, B = coveredF A (letL A) x t := ⟨_, rfl⟩
    rw [← hBB] at hcov
    have HBB : Hid (B = coveredF A (letL A) x t) := hBB
    clear h3 h7 HX hBB
    gi_wp2
    rw [← HAT.out]
    refine ⟨trivial, (CallsIn.inRound l (callsIn_wide.2 hcov)).mono ?_⟩
    rintro e W1 ⟨rfl, hb⟩
    have HK1 : Hid (KeepsOthers W W1) := keeps_below hb
    have HB1 : Hid (Below w.heap.size W W1) := hb.mono H7.out.size
    have g2 := cell_below hb h2
    have g4 := cell_below hb h4
    have g5 := (frozen_below hb h4).trans h5
    have HS1 : Hid (SetC W1 (w.heap.size + 1 + 1) t) := fun i hi => cell_below hb (H3.out i hi)
    clear hb hcov t0 t1 t2 t3 t4 t5 h2 h4 h5
    cases hB : B with
    | true =>
      subst hB
      gi_wp2
      exact ⟨HK1.out.from _, HB1.out, ⟨fun y hy => (List.mem_append.1 hy).elim (h1 y) (fun e => by rw [List.mem_singleton.1 e]; exact HBB.out.symm), g2, HS1.out, g4, g5⟩, H7.out.trans HB1.out⟩
    | false =>
      subst hB
      gi_wp2
      exact ⟨(HK1.out.trans (KeepsOthers.setCell _ _ _)).from _, ⟨rfl, ⟨x, by simp, HBB.out.symm⟩, World.cell?_setCell_same' _ _ _ (by rw [g4]; rfl)⟩, (H7.out.trans HB1.out).setCell (p := ⟨w.heap.size + 1 + 1 + 1, 0, none⟩) (by simp; omega) _⟩
  case done =>
    rintro D ys W hD rfl ⟨⟨h1, h2, h3, h4, h5⟩, h7⟩ hK
    have hRt : R = true := by
      rw [HR.out]
      exact List.all_eq_true.2 h1
    gi_wp2
    have hK' := (KeepsOthers.setCell W ⟨w.heap.size + 1 + 1 + 1, 0, none⟩ (.bool true)).same D _ hK rfl
    refine ⟨by simp, .inl ⟨_, _, rfl, run_takeDeferred hK', ?_⟩⟩
    have hc5 := cell_kept (World.cell?_setCell_same' W ⟨w.heap.size + 1 + 1 + 1, 0, none⟩ (.bool true) (by rw [h4]; rfl)) (grownBy_putObj' _ D (.deferred none)) (fun r e => by cases e; exact ⟨_, hK', rfl⟩)
    refine ⟨.bool true, ?_, by rw [hRt], (h7.setCell (p := ⟨w.heap.size + 1 + 1 + 1, 0, none⟩) (by simp; omega) _).trans (belowK_b (w := w) (Nat.le_refl _) _ D _ _ (by have := HB2.out.size; omega) hK' rfl rfl)⟩
    simp [results, Tryz.f41, go_sem, hc5]
  case stop =>
    rintro D c pre W hD hpre ⟨⟨rfl, hin, hcr⟩, hB⟩ hK
    have hRf : R = false := by
      rw [HR.out, Bool.eq_false_iff]
      intro hall
      obtain ⟨y, hy, hc⟩ := hin
      have := List.all_eq_true.1 hall y (hpre.subset hy)
      rw [hc] at this; cases this
    gi_wp2
    refine ⟨by simp, .inl ⟨_, _, rfl, run_takeDeferred hK, ?_⟩⟩
    have hc5 := cell_kept hcr (grownBy_putObj' _ D (.deferred none)) (fun r e => by cases e; exact ⟨_, hK, rfl⟩)
    refine ⟨.bool false, ?_, by rw [hRf], hB.trans (belowK_b (w := w) (Nat.le_refl _) W D _ _ (by have := HB2.out.size; omega) hK rfl rfl)⟩
    simp [results, Tryz.f41, go_sem, hc5]
end Go.Proofs.YtpbknhhjfhpkmaaGreatDoor
