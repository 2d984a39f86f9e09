/- Contract of view.below: all for whom somebody acts. -/
import Derived.Test.YtfhpmnghakhlkaaDoorOwnC
namespace Go.Proofs.YtfhpmnghakhlkaaDoor
open Go.RowKit

def mineF (ls : List ByteArray) (ps : List (ByteArray × ByteArray)) (who : ByteArray) : List ByteArray :=
  if checkF ls ps = 0 ∧ Act.has ls who = true then ls.filter (fun c => Act.acts ls ps who c) else []
theorem mine_len (ls : List ByteArray) (ps : List (ByteArray × ByteArray)) (who : ByteArray) : (mineF ls ps who).length ≤ 6 := by
  unfold mineF
  split
  · rename_i h
    have h1 := (right_of h.1).1
    have h2 := List.length_filter_le (fun c => Act.acts ls ps who c) ls
    omega
  · simp
structure BlwSt (w wr : World) (v : Value) (l : List ByteArray) : Prop where
  bel : Below w.heap.size w wr
  own : wr.ownsRow w.heap.size 9 1 v l.length (strC l)
theorem BlwSt.later {w wr w1 : World} {v : Value} {l : List ByteArray} (h : BlwSt w wr v l) (hb : Below wr.heap.size wr w1) : BlwSt w w1 v l :=
  ⟨h.bel.trans (hb.mono h.bel.size), own_below h.own hb⟩
theorem BlwSt.step {w w1 w2 : World} {v v' : Value} {l : List ByteArray} {s : ByteArray} {o : Obj} (h : BlwSt w w1 v l) (hown : w2.ownsRow w.heap.size 9 1 v' (l.length + 1) (strC l ++ [.string s])) (hgr : (w1.alloc o).grownBy w2 v.ownBlock) : BlwSt w w2 v' (l ++ [s]) := by
  have hz : (w1.alloc o).heap.size = w1.heap.size + 1 := by simp
  have h1 := h.bel.size
  refine ⟨(h.bel.alloc (by omega) _).grown hgr (by omega) (fun k he => by have := (h.own.lt _ he).1; omega), ?_⟩
  simpa [strC] using hown
theorem mine_step {ls : List ByteArray} {ps : List (ByteArray × ByteArray)} {who : ByteArray} {k : Nat} (hk : k < ls.length) : (ls.take (k + 1)).filter (fun c => Act.acts ls ps who c) = (ls.take k).filter (fun c => Act.acts ls ps who c) ++ (if Act.acts ls ps who ls[k] = true then [ls[k]] else []) := by
  rw [List.take_succ_eq_append_getElem hk, List.filter_append]
  congr 1
  cases hv : Act.acts ls ps who ls[k] <;> simp [hv]

set_option maxHeartbeats 1000000 in
theorem belowC (ao po : Option Addr) (b off b' off' n m c d : Nat) (ls : List ByteArray) (ps : List (ByteArray × ByteArray)) (who : ByteArray) (w : World) (hc : Chiefs w ao po b off b' off' n m c ls ps) :
    Calls Tryd.prog 29 #[.slice ao n c, .slice po m d, .string who] w fun e w' => ∃ v, e = .returned v ∧ w'.ownsRow w.heap.size 9 1 v (mineF ls ps who).length (strC (mineF ls ps who)) ∧ Below w.heap.size w w' := by
  have HC : Hid (Chiefs w ao po b off b' off' n m c ls ps) := hc
  clear hc
  by_cases hg : checkF ls ps = 0 ∧ Act.has ls who = true
  · have HG : Hid (checkF ls ps = 0 ∧ Act.has ls who = true) := hg
    have HM : Hid (mineF ls ps who = ls.filter fun c => Act.acts ls ps who c) := by show _ = _; unfold mineF; rw [if_pos hg]
    rw [HM.out]
    have hn6 : n ≤ 6 := by have h1 := (right_of hg.1).1; have := HC.out.ln; omega
    clear hg HM
    go_enter Tryd.func29, Tryd.ntmps29
    go_wp2
    go_loopw [7, 14] (fun v i wr => ∃ k : Nat, k ≤ n ∧ i = .int .i64 k ∧ Hid (BlwSt w wr v ((ls.take k).filter fun c => Act.acts ls ps who c))) (fun _ i _ => n - (intOf i).toNat)
    case atStart => exact ⟨0, Nat.zero_le _, rfl, ⟨Below.refl _ _, World.ownsRow_nil _ _ _ _⟩⟩
    case round =>
      obtain ⟨k, hk, rfl, HS⟩ := hrel
      by_cases hlt : k < n
      · have hkl : k < ls.length := by have := HC.out.ln; omega
        have hao := HC.out.strs.adr (by omega)
        have f0 := (HC.out.strs.later HS.out.bel).cell k hkl
        have hst := mine_step (ps := ps) (who := who) hkl
        have hmem : ls[k] ∈ ls := List.getElem_mem hkl
        obtain ⟨y, hy⟩ : ∃ y, y = ls[k] := ⟨_, rfl⟩
        rw [← hy] at f0 hst hmem
        have hca := acts_any ao po b off b' off' n m c d ls ps who y wr (HC.out.later HS.out.bel)
        have he : actsE ls ps who y = 0 := by unfold actsE; rw [if_pos HG.out.1, if_pos ⟨HG.out.2, Act.has_iff.2 hmem⟩]
        have hv : actsV ls ps who y = Act.acts ls ps who y := by unfold actsV; rw [he]; simp
        rw [he, hv] at hca
        obtain ⟨l, hl⟩ : ∃ l, l = (ls.take k).filter fun c => Act.acts ls ps who c := ⟨_, rfl⟩
        rw [← hl] at HS hst
        have hll : l.length ≤ 6 := by
          rw [hl]
          have h1 := List.length_filter_le (fun c => Act.acts ls ps who c) (ls.take k)
          have h2 := List.length_take (i := k) (l := ls)
          omega
        obtain ⟨ao', cap', hv'⟩ := slice_of HS.out.own
        subst hv'
        obtain ⟨t, ht⟩ : ∃ t, t = Act.acts ls ps who y := ⟨_, rfl⟩
        rw [← ht] at hca hst
        clear hl hy ht he hv hmem
        subst hao
        go_wp2_with fail
        refine hca.mono ?_
        rintro e w1 ⟨rfl, hb1⟩
        have HS1 : Hid (BlwSt w w1 (.slice ao' l.length cap') l) := HS.out.later hb1
        clear hb1 hca HS
        cases t
        · simp only [Bool.false_eq_true, if_false, List.append_nil] at hst
          have HST : Hid ((ls.take (k + 1)).filter (fun c => Act.acts ls ps who c) = l) := hst
          clear hst
          go_wp2
          go_roundw
          case rel => exact ⟨k + 1, by omega, by go_num, by rw [HST.out]; exact HS1⟩
          case measure => simp [intOf]; omega
        · simp only [if_true] at hst
          have HST : Hid ((ls.take (k + 1)).filter (fun c => Act.acts ls ps who c) = l ++ [y]) := hst
          clear hst
          obtain ⟨i0, hi, hz0, hz1, hz2⟩ := info_parts Tryd.infoStr
          have HO : Hid (w1.ownsRow w.heap.size 9 1 (.slice ao' l.length cap') l.length (strC l)) := HS1.out.own
          have hbig : w.heap.size ≤ w1.heap.size := HS1.out.bel.size
          go_wp2_with (at_builtin; refine wpList_append_own _ rfl _ _ 22 rfl w.heap.size 9 i0 (.string ⟨#[]⟩) 1 16 Tryd.underlying22 hi hz0 hz1 hz2 rfl (by decide) _ _ _ rfl (World.ownsRow.alloc HO.out _) ⟨w1.heap.size, 0, none⟩ 1 1 [.string y] rfl rfl ?c1 ?c2 ?c3 ?c4 ?c5 ?_)
          case c1 => exact one_new _ _ _
          case c2 => intro u hu; simp at hu; subst hu; rfl
          case c3 => unfold maxLen; omega
          case c4 => omega
          case c5 => simp; omega
          · intro v' w5 hown5 hgrow5 _
            have HN : Hid (BlwSt w w5 v' (l ++ [y])) := HS1.out.step hown5 hgrow5
            clear hown5 hgrow5
            go_wp2
            go_roundw
            case rel => exact ⟨k + 1, by omega, by go_num, by rw [HST.out]; exact HN⟩
            case measure => simp [intOf]; omega
      · have HF : Hid ((ls.take k).filter (fun c => Act.acts ls ps who c) = ls.filter fun c => Act.acts ls ps who c) := by
          show _ = _
          rw [List.take_of_length_le (by have := HC.out.ln; omega)]
        go_wp2
        go_ret
        refine ⟨_, rfl, ?_, HS.out.bel⟩
        rw [← HF.out]
        exact HS.out.own
  · have HM : Hid (mineF ls ps who = []) := by show _ = _; unfold mineF; rw [if_neg hg]
    rw [HM.out]
    have HG : Hid (¬ (checkF ls ps = 0 ∧ Act.has ls who = true)) := hg
    have hnm : n ≤ maxLen := HC.out.mn
    unfold maxLen at hnm
    clear hg HM
    go_enter Tryd.func29, Tryd.ntmps29
    go_wp2
    go_loopw [7, 14] (fun v i wr => v = .slice none 0 0 ∧ i = .int .i64 0 ∧ wr = w) (fun _ _ _ => 0)
    case atStart => exact ⟨rfl, rfl, rfl⟩
    case round =>
      obtain ⟨hv, hi, hw⟩ := hrel
      subst hv hi hw
      by_cases hlt : 0 < n
      · have hkl : 0 < ls.length := by have := HC.out.ln; omega
        have hao := HC.out.strs.adr (by omega)
        have f0 := HC.out.strs.cell 0 hkl
        rw [Nat.add_zero] at f0
        obtain ⟨y, hy⟩ : ∃ y, y = ls[0] := ⟨_, rfl⟩
        rw [← hy] at f0
        have hca := acts_any ao po b off b' off' n m c d ls ps who y wr HC.out
        have hne : actsE ls ps who y ≠ 0 := by
          have h := HG.out
          unfold actsE
          by_cases h0 : checkF ls ps = 0
          · rw [if_pos h0, if_neg (fun h2 => h ⟨h0, h2.1⟩)]; decide
          · rw [if_neg h0]; exact h0
        obtain ⟨e0, he0⟩ : ∃ e0, e0 = actsE ls ps who y := ⟨_, rfl⟩
        rw [← he0] at hca hne
        have bn : (e0 == 0) = false := by simp [hne]
        have bb : (e0 != 0) = true := by simp [hne]
        obtain ⟨t, ht⟩ : ∃ t, t = actsV ls ps who y := ⟨_, rfl⟩
        rw [← ht] at hca
        clear he0 hne ht hy
        subst hao
        go_wp2_with fail
        refine hca.mono ?_
        rintro e w1 ⟨rfl, hb1⟩
        go_wp2
        go_ret
        exact ⟨_, rfl, World.ownsRow_nil _ _ _ _, hb1⟩
      · have h0 : n = 0 := by omega
        subst h0
        go_wp2
        go_ret
        exact ⟨_, rfl, World.ownsRow_nil _ _ _ _, Below.refl _ _⟩
end Go.Proofs.YtfhpmnghakhlkaaDoor
