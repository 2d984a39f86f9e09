/- SolveTurned: the law returns true. -/
import Derived.Test.YtnligpcfkmdjeaaGreatDoorSvR
namespace Go.Proofs.YtnligpcfkmdjeaaGreatDoor
open Go.RowKit

theorem bdsE_all {ls : List ByteArray} {ps : List (ByteArray × ByteArray)} {N : Int} : ∀ {l : List RBd}, (∀ x ∈ l, oneE ls ps N x = 0) → bdsE ls ps N l = 0
  | [], _ => rfl
  | y :: r, h => by
    rw [bdsE, if_pos (h y List.mem_cons_self)]
    exact bdsE_all fun x hx => h x (List.mem_cons_of_mem _ hx)
theorem chkB_sub {ls : List ByteArray} {ps : List (ByteArray × ByteArray)} {N : Int} {l m : List RBd} (h : chkB ls ps N l = 0) (hs : ∀ x ∈ m, x ∈ l) (hl : m.length ≤ l.length) : chkB ls ps N m = 0 := by
  unfold chkB at h ⊢
  split at h
  · split at h
    · cases h
    · rename_i hF hr
      rw [if_pos hF, if_neg (by omega)]
      exact bdsE_all fun x hx => bdsE_zero h x (hs x hx)
  · rename_i hF
    exact absurd h hF
theorem chkB_few {ls : List ByteArray} {ps : List (ByteArray × ByteArray)} {N : Int} {l : List RBd} (h : chkB ls ps N l = 0) : l.length ≤ 400 := by
  unfold chkB at h
  split at h
  · split at h
    · cases h
    · omega
  · rename_i hF
    exact absurd h hF
theorem go_flows {ls : List ByteArray} {ps : List (ByteArray × ByteArray)} {N M : Nat} {l m : List RBd} {ys zs : List (List Pol)} (h : LeastOK ls ps N l ys) (g : LeastOK ls ps M m zs) (hs : ∀ x ∈ l, x ∈ m) {k : Nat} (hk : k < ys.length) (hk' : k < zs.length) : bothL ls ps ys[k] zs[k] = 0 ∧ flowsV ls ps ys[k] zs[k] = true := by
  have c1 := h.ok _ (List.getElem_mem hk)
  have c2 := g.ok _ (List.getElem_mem hk')
  have hb : bothL ls ps ys[k] zs[k] = 0 := by unfold bothL; rw [if_pos c1]; exact c2
  refine ⟨hb, ?_⟩
  unfold flowsV
  rw [decide_eq_true hb, Bool.true_and, Lab.flows_iff (right_of (checkL_ok c1).1).2.2.1 (checkL_ok c1).2.2.1 (checkL_ok c2).2.2.1]
  have hm := Sol.Least.more (m := l.map toB) (l := m.map toB) (fun b hb => by
    obtain ⟨x, hx, rfl⟩ := List.mem_map.1 hb
    exact List.mem_map.2 ⟨x, hs x hx, rfl⟩) h.least g.least k
  intro q hq
  obtain ⟨p, hp, hc⟩ := hm q ((hs_at hk q).2 hq)
  exact ⟨p, (hs_at hk' p).1 hp, hc⟩
theorem Bds.take {w : World} {ao : Option Addr} {b off : Nat} {l : List RBd} (h : Bds w ao b off l) (j : Nat) : Bds w ao b off (l.take j) :=
  ⟨fun hp => h.adr (by simp at hp; omega), fun k hk => by
    have hk' : k < l.length := by simp at hk; omega
    have := h.at' k hk'
    rwa [List.getElem_take]⟩
theorem belowDr {w W : World} (h : Below w.heap.size w W) : Below w.heap.size w W.drew := ⟨h.os, h.tape, h.output, h.size, h.block⟩

theorem atC (k : Int) (n : Nat) (w : World) (hn : 0 < n) (hb : n ≤ 1000) :
    Calls Tryz.prog 26 #[.int .i64 k, .int .i64 n] w fun e w' => (∃ j : Nat, j < n ∧ e = .returned (.int .i64 j)) ∧ w' = w := by
  have hz : ((n : Int) == 0) = false := by simp; omega
  go_enter Tryz.func26, Tryz.ntmps26
  go_wp2
  · rename_i hneg
    have hgt := Int.lt_tmod_of_pos k (b := (n : Int)) (by omega)
    have hw : wrap64 (k.tmod n + n) = k.tmod n + n := by unfold wrap64; omega
    go_ret
    rw [hw]
    exact ⟨⟨(k.tmod n + n).toNat, by omega, by rw [Int.toNat_of_nonneg (by omega)]; rfl⟩, rfl⟩
  · rename_i hpos
    have hlt := Int.tmod_lt_of_pos k (b := (n : Int)) (by omega)
    go_ret
    exact ⟨⟨(k.tmod n).toNat, by omega, by rw [Int.toNat_of_nonneg (by omega)]; rfl⟩, rfl⟩

set_option maxRecDepth 100000 in
set_option maxHeartbeats 2000000 in
theorem turnC (q : Nat) (ao po lo mo : Option Addr) (b off b' off' n m c d lb loff ln lc mb moff mn mc : Nat) (ls : List ByteArray) (ps : List (ByteArray × ByteArray)) (x y : List Pol) (w : World) (hb0 : w.cell? ⟨q, 0, none⟩ = some (.slice ao n c)) (hb1 : w.cell? ⟨q + 1, 0, none⟩ = some (.slice po m d)) (hc : Chiefs w ao po b off b' off' n m c ls ps) (hx : LabAt w lo lb loff ln lc x) (hy : LabAt w mo mb moff mn mc y) (h0 : bothL ls ps x y = 0) (hf : flowsV ls ps x y = true) :
    Calls Tryz.prog 27 #[.slice lo ln lc, .slice mo mn mc, .pointer (some ⟨q, 0, none⟩), .pointer (some ⟨q + 1, 0, none⟩)] w fun e w' => e = .returned (.bool true) ∧ Below w.heap.size w w' := by
  have hcall := flowsC ao po lo mo b off b' off' n m c d lb loff ln lc mb moff mn mc ls ps x y w hc hx hy
  rw [h0, hf] at hcall
  clear hc hx hy h0 hf
  go_enter Tryz.func27, Tryz.ntmps27
  go_wp2_with fail
  refine hcall.mono ?_
  rintro e w1 ⟨rfl, hb2⟩
  go_wp2
  go_ret
  exact ⟨rfl, hb2⟩
end Go.Proofs.YtnligpcfkmdjeaaGreatDoor
