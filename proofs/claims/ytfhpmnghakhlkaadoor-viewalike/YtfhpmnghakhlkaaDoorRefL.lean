/- Contract of the document's own Lets: for seats without covers. -/
import Derived.Test.YtfhpmnghakhlkaaDoorActsR
import Derived.Test.YtfhpmnghakhlkaaDoorLabK
import Derived.Test.YtfhpmnghakhlkaaDoorFnP
import Derived.Lib.AppendZeros
namespace Go.Proofs.YtfhpmnghakhlkaaDoor
open Go.RowKit

/- The pairs that the document's functions take. -/
structure Pairs (w : World) (po : Option Addr) (b off m : Nat) (ps : List (ByteArray × ByteArray)) : Prop where
  lm : m = ps.length
  few : m ≤ 10
  prs : Prs w po b off ps
theorem Pairs.later {w w' : World} {po : Option Addr} {b off m : Nat} {ps : List (ByteArray × ByteArray)} (h : Pairs w po b off m ps) (hb : Below w.heap.size w w') : Pairs w' po b off m ps := ⟨h.lm, h.few, h.prs.later hb⟩

theorem actsB (po : Option Addr) (b off m d : Nat) (ls : List ByteArray) (ps : List (ByteArray × ByteArray)) (x y : ByteArray) (w : World) (hp : Pairs w po b off m ps) (hr : Act.Right ls ps) (hx : x ∈ ls) (hy : y ∈ ls) :
    Calls Tryd.prog 43 #[.slice po m d, .string x, .string y] w fun e w' => e = .returned (.bool (Act.acts ls ps x y)) ∧ Below w.heap.size w w' := by
  refine (actsR_any po b off m d ps x y w hp.lm hp.few hp.prs).mono ?_
  rintro e w' ⟨r, rfl, h1, h2⟩
  have e : r = Act.acts ls ps x y := by
    rw [Bool.eq_iff_iff, h1, Act.acts_iff hr hx hy]
  rw [e]
  exact ⟨rfl, h2⟩

theorem append_noneS (base xo : Option Addr) (n c xc : Nat) (ty : TypeId) (w : World) (hn : n ≤ c) : (Builtin.append_ #[22, 22] ty #[.slice base n c, .slice xo 0 xc]).run Tryd.prog w = .ok (.slice base n c) w := by
  cases base <;> cases xo <;> simp [Builtin.append_, run_underlying Tryd.underlying22, go_sem, hn, Builtin.firstCells, Builtin.lenOf, storeCells]
theorem strC_one (l : List ByteArray) : ∀ u ∈ strC l, u.oneCell' = true := by
  intro u hu
  simp only [strC, List.mem_map] at hu
  obtain ⟨s, _, rfl⟩ := hu
  rfl
/- append of a row to a new row of one. -/
theorem one_more (o : ByteArray) (v : Value) (rs : List ByteArray) (N : Nat) (ty : TypeId) (w : World) (h0 : w.heap[N]? = some (.cells #[.string o] 9 (0, 0))) (hv : ReadersAt w v rs) (h6 : rs.length ≤ 1000) :
    ∃ v' w', (Builtin.append_ #[22, 22] ty #[.slice (some ⟨N, 0, none⟩) 1 1, v]).run Tryd.prog w = .ok v' w' ∧ w'.ownsRow N 9 1 v' (o :: rs).length (strC (o :: rs)) ∧ w.grownBy w' (some N) := by
  obtain ⟨i0, hi, hz0, hz1, hz2⟩ := info_parts Tryd.infoStr
  have hown : w.ownsRow N 9 1 (.slice (some ⟨N, 0, none⟩) 1 1) 1 [.string o] := ⟨rfl, .inr ⟨N, 1, #[.string o], rfl, Nat.le_refl _, h0, Nat.le_refl _, by unfold maxLen; omega, rfl, rfl⟩⟩
  obtain ⟨ro, rb, roff, rc, rfl, _, _, h4⟩ := hv
  by_cases hr : rs.length = 0
  · have e : rs = [] := List.length_eq_zero_iff.1 hr
    subst e
    exact ⟨_, _, append_noneS _ _ _ _ _ _ _ (Nat.le_refl _), hown, ⟨rfl, rfl, rfl, Nat.le_refl _, fun _ _ _ => rfl⟩⟩
  · have ha := h4.adr (by omega)
    subst ha
    obtain ⟨v', w', h1, h2, h3, _⟩ := run_append_own (P := Tryd.prog) w N 22 ty 9 i0 (.string ⟨#[]⟩) 1 16 Tryd.underlying22 hi hz0 hz1 hz2 rfl (by decide) _ _ _ hown ⟨rb, roff, none⟩ rs.length rc (strC rs) (by simp [strC]) (by
      intro j u hu
      obtain ⟨hj, e⟩ := List.getElem?_eq_some_iff.1 hu
      simp only [strC, List.length_map] at hj
      have := h4.cell j hj
      have e1 : (⟨rb, roff, none⟩ : Addr).add j = ⟨rb, roff + j, none⟩ := by simp [Addr.add]
      rw [e1, this, ← e]
      simp [strC]) (strC_one rs) (by unfold maxLen; omega) (by omega) (Nat.le_of_lt (lt_of_block h0))
    refine ⟨v', w', h1, ?_, h3⟩
    have e : (o :: rs).length = 1 + rs.length := by simp; omega
    rw [e]
    exact h2

theorem Of.mem {ls : List ByteArray} {p : Pol} (h : Lab.Of ls p) : ∀ s ∈ p.1 :: p.2, s ∈ ls := by
  intro s hs
  rcases List.mem_cons.1 hs with e | e
  · rw [e]; exact h.1
  · exact h.2 s e
theorem letsB_cons (ls : List ByteArray) (ps : List (ByteArray × ByteArray)) (o : ByteArray) (rs : List ByteArray) (s : ByteArray) : Lab.letsB ls ps (o, rs) s = (o :: rs).any fun r => Act.acts ls ps s r := by simp [Lab.letsB]

set_option maxRecDepth 100000 in
set_option maxHeartbeats 2000000 in
theorem letsR (po : Option Addr) (b off m d : Nat) (ls : List ByteArray) (ps : List (ByteArray × ByteArray)) (p : Pol) (v : Value) (s : ByteArray) (w : World) (hp : Pairs w po b off m ps) (hr : Act.Right ls ps) (hof : Lab.Of ls p) (hs : s ∈ ls) (hv : ReadersAt w v p.2) (h6 : p.2.length ≤ 1000) :
    Calls Tryd.prog 28 #[.slice po m d, .agg #[.string p.1, v], .string s] w fun e w' => e = .returned (.bool (Lab.letsB ls ps p s)) ∧ Below w.heap.size w w' := by
  obtain ⟨o, rs⟩ := p
  simp only at hv h6 ⊢
  obtain ⟨wz, hwz⟩ : ∃ wz, wz = (w.alloc (.cells #[.string o, v] 61)).alloc (.cells #[.string o] 9) := ⟨_, rfl⟩
  have hbz : Below w.heap.size w wz := by rw [hwz]; exact ((Below.refl _ _).alloc (Nat.le_refl _) _).alloc (by simp) _
  have k1 : wz.heap[w.heap.size + 1]? = some (.cells #[.string o] 9 (0, 0)) := by rw [hwz]; exact heap_at_alloc _ _ _ (by simp)
  obtain ⟨v', w', hrun, hown, hgr⟩ := one_more o v rs (w.heap.size + 1) 22 wz k1 (hv.later hbz) h6
  have hbw : Below w.heap.size w w' := hbz.grown hgr hbz.size (fun j hj => by simp at hj; omega)
  obtain ⟨ao, g, cap, hv', _, _, hss⟩ := strs_of_own hown
  subst hv'
  rw [hwz] at hrun
  have HRUN : Hid ((Builtin.append_ #[22, 22] 22 #[.slice (some ⟨w.heap.size + 1, 0, none⟩) 1 1, v]).run Tryd.prog ((w.alloc (.cells #[.string o, v] 61)).alloc (.cells #[.string o] 9)) = .ok (.slice ao (o :: rs).length cap) w') := hrun
  have HBW : Hid (Below w.heap.size w w') := hbw
  have HSS : Hid (Strs w' ao g 0 (o :: rs)) := hss
  have HE : Hid (Lab.letsB ls ps (o, rs) s = (o :: rs).any fun r => Act.acts ls ps s r) := letsB_cons ls ps o rs s
  have HMEM : Hid (∀ t ∈ o :: rs, t ∈ ls) := Of.mem (p := (o, rs)) hof
  have HP : Hid (Pairs w po b off m ps) := hp
  have HR : Hid (Act.Right ls ps) := hr
  have HS : Hid (s ∈ ls) := hs
  obtain ⟨q, hq⟩ : ∃ q, q = (o :: rs).length := ⟨_, rfl⟩
  rw [← hq] at HRUN
  have HQ : Hid (q = (o :: rs).length) := hq
  have hq1 : q ≤ 1001 := by rw [hq]; simp; omega
  obtain ⟨row, hrow⟩ : ∃ row, row = o :: rs := ⟨_, rfl⟩
  rw [← hrow] at HSS HE HMEM HQ
  clear hwz hbz k1 hrun hown hgr hbw hss hof hp hr hs hv h6 hq hrow
  rw [HE.out]
  clear HE
  go_enter Tryd.func28, Tryd.ntmps28
  go_wp2_with (at_builtin; refine Lib.wpList_append_run _ rfl _ _ _ _ rfl _ _ rfl rfl _ _ HRUN.out ?_)
  clear HRUN
  go_loopw [16] (fun i wr => ∃ k : Nat, k ≤ q ∧ i = .int .i64 k ∧ Hid (∀ t ∈ row.take k, Act.acts ls ps s t = false) ∧ Hid (Below w'.heap.size w' wr)) (fun i _ => q - (intOf i).toNat)
  case atStart => exact ⟨0, Nat.zero_le _, rfl, by show ∀ t ∈ _, _; simp, Below.refl _ _⟩
  case round =>
    obtain ⟨k, hk, rfl, HN, HB⟩ := hrel
    have HBB : Hid (Below w.heap.size w wr) := HBW.out.trans (HB.out.mono HBW.out.size)
    by_cases hlt : k < q
    · have hkl : k < row.length := by have := HQ.out; omega
      have hst := HSS.out.later HB.out
      have hao := hst.adr (by omega)
      have f0 := hst.cell k hkl
      rw [Nat.zero_add] at f0
      obtain ⟨t, ht⟩ : ∃ t, t = row[k] := ⟨_, rfl⟩
      rw [← ht] at f0
      have HT : Hid (t = row[k]) := ht
      have hcall := actsB po b off m d ls ps s t wr (HP.out.later HBB.out) HR.out HS.out (HMEM.out t (ht ▸ List.getElem_mem hkl))
      clear hst ht
      subst hao
      cases hq2 : Act.acts ls ps s t with
      | true =>
        rw [hq2] at hcall
        have HF : Hid ((row.any fun r => Act.acts ls ps s r) = true) := List.any_eq_true.2 ⟨_, List.getElem_mem hkl, by rw [← HT.out]; exact hq2⟩
        clear hq2
        go_wp2_with fail
        refine hcall.mono ?_
        rintro e w1 ⟨rfl, hb1⟩
        go_wp2
        go_ret
        refine ⟨?_, HBB.out.trans (hb1.mono HBB.out.size)⟩
        rw [HF.out]; rfl
      | false =>
        rw [hq2] at hcall
        have HF : Hid (∀ t ∈ row.take (k + 1), Act.acts ls ps s t = false) := none_step (t := fun t => Act.acts ls ps s t) hkl HN.out (by rw [← HT.out]; exact hq2)
        clear hq2
        go_wp2_with fail
        refine hcall.mono ?_
        rintro e w1 ⟨rfl, hb1⟩
        have HB1 : Hid (Below w'.heap.size w' w1) := HB.out.trans (hb1.mono HB.out.size)
        clear hb1
        go_wp2
        go_roundw
        case rel => exact ⟨k + 1, by omega, by go_num, HF, HB1⟩
        case measure => simp [intOf]; omega
    · have HF : Hid ((row.any fun r => Act.acts ls ps s r) = false) := by
        have h := HN.out
        rw [List.take_of_length_le (by have := HQ.out; omega)] at h
        exact List.any_eq_false.2 fun t ht => by simp [h t ht]
      go_wp2
      go_ret
      refine ⟨?_, HBB.out⟩
      rw [HF.out]; rfl
end Go.Proofs.YtfhpmnghakhlkaaDoor
