/- Labels in a row, in plain words and in memory. -/
import Derived.Test.YtnligpcfkmdjeaaGreatDoorSolZ
import Derived.Test.YtnligpcfkmdjeaaGreatDoorGaNorm
namespace Go.Proofs.YtnligpcfkmdjeaaGreatDoor
open Go.RowKit

/- Labels that lie in a row. -/
structure LbsAt (w : World) (ao : Option Addr) (b off : Nat) (ys : List (List Pol)) : Prop where
  adr : 0 < ys.length → ao = some ⟨b, off, none⟩
  at' : ∀ k (h : k < ys.length), ∃ v, w.cell? ⟨b, off + k, none⟩ = some v ∧ LabVal w v ys[k]
theorem LbsAt.later {w w' : World} {ao : Option Addr} {b off : Nat} {ys : List (List Pol)} (h : LbsAt w ao b off ys) (hb : Below w.heap.size w w') : LbsAt w' ao b off ys :=
  ⟨h.adr, fun k hk => by
    obtain ⟨v, h1, h2⟩ := h.at' k hk
    exact ⟨v, cell_below hb h1, h2.later hb⟩⟩
/- A label with its value; it lies off some block. -/
abbrev LV := List Pol × Value
structure OffLb (w : World) (g : Option Nat) (y : LV) : Prop where
  ex : ∃ (M : List PV) (ao : Option Addr) (b cap : Nat), M.map (·.1) = y.1 ∧ y.2 = .slice ao y.1.length cap ∧ y.1.length ≤ cap ∧ cap ≤ maxLen ∧ (0 < y.1.length → ao = some ⟨b, 0, none⟩ ∧ some b ≠ g ∧ b < w.heap.size) ∧ RowP w b M ∧ ∀ z ∈ M, Off w g z
theorem OffLb.later {w w' : World} {g : Option Nat} {y : LV} (h : OffLb w g y) (hb : Below w.heap.size w w') : OffLb w' g y := by
  obtain ⟨M, ao, b, cap, h1, h2, h3, h4, h5, h6, h7⟩ := h.ex
  refine ⟨M, ao, b, cap, h1, h2, h3, h4, fun hp => ⟨(h5 hp).1, (h5 hp).2.1, Nat.lt_of_lt_of_le (h5 hp).2.2 hb.size⟩, ⟨fun k hk => cell_below hb (h6.c0 k hk), fun k hk => cell_below hb (h6.c1 k hk)⟩, fun z hz => (h7 z hz).later hb⟩
theorem OffLb.step {wa w3 : World} {v v2 : Value} {y : LV} (h : OffLb wa v.ownBlock y) (hgr : wa.grownBy w3 v.ownBlock) (hloc : v2.ownBlock = v.ownBlock ∨ v2.ownBlock = some wa.heap.size) : OffLb w3 v2.ownBlock y := by
  obtain ⟨M, ao, b, cap, h1, h2, h3, h4, h5, h6, h7⟩ := h.ex
  have hML : M.length = y.1.length := by rw [← h1, List.length_map]
  refine ⟨M, ao, b, cap, h1, h2, h3, h4, fun hp => ⟨(h5 hp).1, ?_, Nat.lt_of_lt_of_le (h5 hp).2.2 hgr.size⟩, ⟨fun k hk => ?_, fun k hk => ?_⟩, fun z hz => off_step (h7 z hz) hgr hloc⟩
  · rcases hloc with e | e
    · rw [e]; exact (h5 hp).2.1
    · rw [e]
      have := (h5 hp).2.2
      intro e2
      injection e2 with e2
      omega
  · have h8 := h5 (by omega)
    exact (hgr.cell_far ⟨b, k * 2, none⟩ h8.2.2 h8.2.1).trans (h6.c0 k hk)
  · have h8 := h5 (by omega)
    exact (hgr.cell_far ⟨b, k * 2 + 1, none⟩ h8.2.2 h8.2.1).trans (h6.c1 k hk)
theorem OffLb.of_new {w : World} {base : Nat} {g : Option Nat} {v : Value} {y : List Pol} (h : LabNw w base v y) (hg : ∀ k, g = some k → k < base) : OffLb w g (y, v) := by
  obtain ⟨M, rfl, ho, hr⟩ := h
  have hoff : ∀ z ∈ M, Off w g z := fun z hz => by
    obtain ⟨⟨ro, rb, roff, rc, k1, k2, k3, k4⟩, k5⟩ := hr z hz
    refine ⟨ro, rb, roff, rc, k1, k2, k3, k4, fun hp e => ?_⟩
    have hro := k4.adr hp
    have h1 := k5 hp rb (by rw [k1, hro]; rfl)
    have h2 := hg rb e.symm
    omega
  rcases ho.2 with ⟨hv, h0⟩ | ⟨b, cap, cur, hv, hb, hh, hc1, hc2, hsz, htk⟩
  · have hnil : M = [] := by
      have : M.length = 0 := by rw [← List.length_map (f := (·.1))]; exact h0
      exact List.length_eq_zero_iff.1 this
    subst hnil
    exact ⟨[], none, 0, 0, rfl, hv, by simp, by simp [maxLen], fun hp => by simp at hp, ⟨fun k hk => by simp at hk, fun k hk => by simp at hk⟩, fun z hz => by cases hz⟩
  · refine ⟨M, some ⟨b, 0, none⟩, b, cap, rfl, hv, hc1, hc2, fun _ => ⟨rfl, fun e => ?_, lt_of_block hh⟩, rowP_of hh (by rw [List.length_map] at htk; exact htk), hoff⟩
    have := hg b e.symm
    omega
theorem OffLb.val {w : World} {g : Option Nat} {y : LV} (h : OffLb w g y) (hs : ∀ p ∈ y.1, SmallP p) : LabVal w y.2 y.1 := by
  obtain ⟨M, ao, b, cap, h1, h2, h3, h4, h5, h6, h7⟩ := h.ex
  have hML : M.length = y.1.length := by rw [← h1, List.length_map]
  refine ⟨ao, b, 0, y.1.length, cap, h2, rfl, Nat.le_trans h3 h4, h3, ⟨fun hp => (h5 hp).1, fun k hk => ?_, fun k hk => ?_, fun hp => (h5 hp).2.2⟩, fun p hp => ?_⟩
  · have hkM : k < M.length := by omega
    have e : y.1[k] = M[k].1 := by simp [← h1]
    rw [e, Nat.zero_add]
    exact h6.c0 k hkM
  · have hkM : k < M.length := by omega
    have e : y.1[k] = M[k].1 := by simp [← h1]
    refine ⟨M[k].2, by rw [Nat.zero_add]; exact h6.c1 k hkM, ?_⟩
    rw [e]
    exact (h7 _ (List.getElem_mem hkM)).at'
  · have h8 := hs p hp
    exact ⟨Nat.le_trans h8.own (by unfold maxLen; omega), fun r hr => Nat.le_trans (h8.rd r hr) (by unfold maxLen; omega)⟩
/- What a loop holds that gathers labels. -/
structure LsSt2 (w wr : World) (v : Value) (L : List LV) : Prop where
  bel : Below w.heap.size w wr
  own : wr.ownsRow w.heap.size 34 1 v L.length (L.map (·.2))
  off : ∀ y ∈ L, OffLb wr v.ownBlock y
theorem LsSt2.later {w wr w' : World} {v : Value} {L : List LV} (h : LsSt2 w wr v L) (hb : Below wr.heap.size wr w') : LsSt2 w w' v L := ⟨h.bel.trans (hb.mono h.bel.size), own_below h.own hb, fun y hy => (h.off y hy).later hb⟩
theorem LsSt2.step {w wa w3 : World} {v v2 : Value} {L : List LV} {y : LV} (h : LsSt2 w wa v L) (hy : OffLb wa v.ownBlock y) (hown : w3.ownsRow w.heap.size 34 1 v2 (L.length + 1) (L.map (·.2) ++ [y.2])) (hgr : wa.grownBy w3 v.ownBlock) (hloc : v2.ownBlock = v.ownBlock ∨ v2.ownBlock = some wa.heap.size) : LsSt2 w w3 v2 (L ++ [y]) := by
  refine ⟨h.bel.grown hgr h.bel.size (fun k e => (h.own.lt _ e).1), by rw [List.length_append, List.map_append]; exact hown, fun z hz => ?_⟩
  rcases List.mem_append.1 hz with hz | hz
  · exact (h.off z hz).step hgr hloc
  · rw [List.mem_singleton.1 hz]; exact hy.step hgr hloc
theorem LsSt2.fin {w wr : World} {v : Value} {L : List LV} (h : LsSt2 w wr v L) (hs : ∀ y ∈ L, ∀ p ∈ y.1, SmallP p) : ∃ ao b cap, v = .slice ao (L.map (·.1)).length cap ∧ (L.map (·.1)).length ≤ maxLen ∧ LbsAt wr ao b 0 (L.map (·.1)) := by
  rcases h.own.2 with ⟨hv, h0⟩ | ⟨g, cap, cur, hv, hg, hh, hc1, hc2, hsz, htk⟩
  · have hnil : L = [] := List.length_eq_zero_iff.1 h0
    subst hnil
    exact ⟨none, 0, 0, hv, by simp, ⟨fun h => by simp at h, fun k h => by simp at h⟩⟩
  · refine ⟨some ⟨g, 0, none⟩, g, cap, by rw [List.length_map]; exact hv, by rw [List.length_map]; omega, ⟨fun _ => rfl, fun k hk => ?_⟩⟩
    rw [List.length_map] at hk
    rw [List.getElem_map, Nat.zero_add]
    refine ⟨L[k].2, ?_, (h.off _ (List.getElem_mem hk)).val (hs _ (List.getElem_mem hk))⟩
    rw [cell_blk hh, ← Array.getElem?_toList]
    have e : (cur.toList.take (L.length * 1))[k]? = (L.map (·.2))[k]? := by rw [htk]
    rw [List.getElem?_take, if_pos (by omega)] at e
    rw [e]
    simp [hk]
theorem Tryz.infoLabD : (Tryz.prog.info? 34).map (fun i => (i.zero, i.size, i.bytes)) = some (some (.slice none 0 0), 1, 24) := by kernel_rfl
end Go.Proofs.YtnligpcfkmdjeaaGreatDoor
