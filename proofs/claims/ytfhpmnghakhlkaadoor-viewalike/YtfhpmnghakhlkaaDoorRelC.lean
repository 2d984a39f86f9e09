/- Contracts of view.Released, view.Begins and of the law's bare. -/
import Derived.Test.YtfhpmnghakhlkaaDoorSeenC
import Derived.Test.YtfhpmnghakhlkaaDoorEvEq
import Derived.Deep.AppendLies
namespace Go.Proofs.YtfhpmnghakhlkaaDoor
open Go.RowKit

/- Two rows of events apart from each other. -/
structure TwoSt (w wr : World) (v1 v2 : Value) (l1 l2 : List Ev2) : Prop where
  a : EvSt w wr v1 l1
  b : EvSt w wr v2 l2
  ap : ∀ k, v1.ownBlock = some k → v2.ownBlock ≠ some k
theorem TwoSt.nil (w : World) : TwoSt w w (.slice none 0 0) (.slice none 0 0) [] [] := ⟨EvSt.nil w, EvSt.nil w, fun k h => by simp [Value.ownBlock] at h⟩
theorem TwoSt.later {w wr w1 : World} {v1 v2 : Value} {l1 l2 : List Ev2} (h : TwoSt w wr v1 v2 l1 l2) (hb : Below wr.heap.size wr w1) : TwoSt w w1 v1 v2 l1 l2 := ⟨h.a.later hb, h.b.later hb, h.ap⟩
theorem TwoSt.turn {w wr : World} {v1 v2 : Value} {l1 l2 : List Ev2} (h : TwoSt w wr v1 v2 l1 l2) : TwoSt w wr v2 v1 l2 l1 := ⟨h.b, h.a, fun k h1 h2 => h.ap k h2 h1⟩
theorem TwoSt.step {w w1 w2 : World} {v1 v2 : Value} {l1 l2 : List Ev2} {s : ByteArray} {i : Int} {o : Obj} {g cap H : Nat} (h : TwoSt w w1 v1 v2 l1 l2) (hown : w2.ownsRow w.heap.size 35 3 (.slice (some ⟨g, 0, none⟩) (l1.length + 1) cap) (l1.length + 1) (evC (bareV l1) ++ [.string s, .int .i64 i, .slice none 0 0])) (hgr : (w1.alloc o).grownBy w2 v1.ownBlock) (hat : v1.ownBlock = some g ∨ g = H) (hH : w1.heap.size ≤ H) :
    TwoSt w w2 (.slice (some ⟨g, 0, none⟩) (l1.length + 1) cap) v2 (l1 ++ [(s, i)]) l2 := by
  have hb : Below w1.heap.size w1 (w1.alloc o) := (Below.refl _ _).alloc (Nat.le_refl _) _
  refine ⟨h.a.step hown hgr, ⟨(h.a.step hown hgr).bel, (h.b.later hb).own.kept hgr ?_⟩, ?_⟩
  · by_cases hv : v2.ownBlock = none
    · exact .inl hv
    · right
      intro e
      cases hk : v1.ownBlock with
      | none => rw [hk] at e; exact hv e
      | some k => exact h.ap k hk (by rw [e, hk])
  · intro k hk
    simp only [Value.ownBlock, Option.some.injEq] at hk
    subst hk
    rcases hat with hat | hat
    · exact h.ap _ hat
    · intro e
      have := (h.b.own.lt _ e).2
      omega

theorem empty_ne {s : ByteArray} (h : s ≠ ⟨#[]⟩) : s.toList.isEmpty = false := by
  cases hb : s.toList.isEmpty with
  | false => rfl
  | true =>
    rw [List.isEmpty_iff] at hb
    exact absurd (toList_inj (hb.trans (by rw [Lex.list_of] : [] = (⟨#[]⟩ : ByteArray).toList))) h
def relF (l : List Evt) : List Ev2 := (l.filter fun e => decide (e.1 = ⟨#[]⟩)).map fun e => (e.1, e.2.1)
def othF (l : List Evt) : List Ev2 := (l.filter fun e => !decide (e.1 = ⟨#[]⟩)).map fun e => (e.1, e.2.1)
theorem relF_step {l : List Evt} {k : Nat} (hk : k < l.length) (h : l[k].1 = ⟨#[]⟩) : relF (l.take (k + 1)) = relF (l.take k) ++ [(l[k].1, l[k].2.1)] ∧ othF (l.take (k + 1)) = othF (l.take k) := by
  have e1 : [l[k]].filter (fun e => decide (e.1 = ⟨#[]⟩)) = [l[k]] := by simp [h]
  have e2 : [l[k]].filter (fun e => !decide (e.1 = ⟨#[]⟩)) = [] := by simp [h]
  unfold relF othF
  rw [List.take_succ_eq_append_getElem hk, List.filter_append, List.filter_append, List.map_append, List.map_append, e1, e2]
  exact ⟨rfl, by rw [List.map_nil, List.append_nil]⟩
theorem othF_step {l : List Evt} {k : Nat} (hk : k < l.length) (h : l[k].1 ≠ ⟨#[]⟩) : relF (l.take (k + 1)) = relF (l.take k) ∧ othF (l.take (k + 1)) = othF (l.take k) ++ [(l[k].1, l[k].2.1)] := by
  have e1 : [l[k]].filter (fun e => decide (e.1 = ⟨#[]⟩)) = [] := by simp [h]
  have e2 : [l[k]].filter (fun e => !decide (e.1 = ⟨#[]⟩)) = [l[k]] := by simp [h]
  unfold relF othF
  rw [List.take_succ_eq_append_getElem hk, List.filter_append, List.filter_append, List.map_append, List.map_append, e1, e2]
  exact ⟨by rw [List.map_nil, List.append_nil], rfl⟩
theorem relF_len (l : List Evt) : (relF l).length ≤ l.length := by
  unfold relF; rw [List.length_map]; exact List.length_filter_le _ _
theorem othF_len (l : List Evt) : (othF l).length ≤ l.length := by
  unfold othF; rw [List.length_map]; exact List.length_filter_le _ _

set_option maxRecDepth 100000 in
set_option maxHeartbeats 4000000 in
theorem releasedC (lo : Option Addr) (lb loff ln lc : Nat) (vs : List Ev3) (l : List Evt) (w : World) (hv : EvV w lo lb loff vs) (hl : EvL w vs l) (hn : ln = l.length) (hm : ln * 48 ≤ 140737488351232) :
    Calls Tryd.prog 6 #[.slice lo ln lc] w fun e w' => ∃ v1 v2, e = .returned (.tuple #[v1, v2]) ∧ TwoSt w w' v1 v2 (relF l) (othF l) := by
  have HV : Hid (EvV w lo lb loff vs) := hv
  have HL : Hid (EvL w vs l) := hl
  have HN : Hid (ln = l.length) := hn
  clear hv hl hn
  go_enter Tryd.func6, Tryd.ntmps6
  go_wp2
  go_loopw [2, 3, 8] (fun v1 v2 i wr => ∃ k : Nat, k ≤ ln ∧ i = .int .i64 k ∧ Hid (TwoSt w wr v1 v2 (relF (l.take k)) (othF (l.take k)))) (fun _ _ i _ => ln - (intOf i).toNat)
  case atStart => exact ⟨0, Nat.zero_le _, rfl, TwoSt.nil w⟩
  case round =>
    obtain ⟨k, hk, rfl, HS⟩ := hrel
    by_cases hlt : k < ln
    · have hkl : k < l.length := by have := HN.out; omega
      have hkv : k < vs.length := by have := HL.out.ln; omega
      have hV := HV.out.later HS.out.a.bel
      have hL := HL.out.later HS.out.a.bel
      have hao := hV.adr (by omega)
      have f0 := hV.c0 k hkv
      have f1 := hV.c1 k hkv
      have f2 := hV.c2 k hkv
      obtain ⟨q0, q1, q2⟩ := hL.at' k hkv hkl
      have hsz := hL.sz _ (List.getElem_mem hkl)
      have hs1 := fun h => relF_step hkl h
      have hs2 := fun h => othF_step hkl h
      have r1 : (relF (l.take k)).length ≤ k := Nat.le_trans (relF_len _) (by rw [List.length_take]; omega)
      have r2 : (othF (l.take k)).length ≤ k := Nat.le_trans (othF_len _) (by rw [List.length_take]; omega)
      rw [q0] at f0
      rw [q1] at f1
      obtain ⟨s, hs⟩ : ∃ s, s = l[k].1 := ⟨_, rfl⟩
      obtain ⟨i, hi⟩ : ∃ i, i = l[k].2.1 := ⟨_, rfl⟩
      rw [← hs] at f0 hs1 hs2 hsz
      rw [← hi] at f1 hs1 hs2
      obtain ⟨go, gb, goff, gn, gc, hgv, _⟩ := q2
      rw [hgv] at f2
      obtain ⟨L1, hL1⟩ : ∃ L, L = relF (l.take k) := ⟨_, rfl⟩
      obtain ⟨L2, hL2⟩ : ∃ L, L = othF (l.take k) := ⟨_, rfl⟩
      rw [← hL1] at HS hs1 hs2 r1
      rw [← hL2] at HS hs1 hs2 r2
      obtain ⟨o1, c1, hv1⟩ := slice_of HS.out.a.own
      obtain ⟨o2, c2, hv2⟩ := slice_of HS.out.b.own
      subst hv1 hv2
      obtain ⟨wy, hwy⟩ : ∃ wy, wy = wr.alloc (.cells #[.string s, .int .i64 i, .slice go gn gc] 35) := ⟨_, rfl⟩
      have hby : Below wr.heap.size wr wy := by rw [hwy]; exact (Below.refl _ _).alloc (Nat.le_refl _) _
      have HSY : Hid (TwoSt w wy (.slice o1 L1.length c1) (.slice o2 L2.length c2) L1 L2) := HS.out.later hby
      have HWY : Hid (wy = wr.alloc (.cells #[.string s, .int .i64 i, .slice go gn gc] 35)) := hwy
      clear hV hL q0 q1 hs hi hgv hL1 hL2 HS hwy hby
      obtain ⟨i0, hi, hz0, hz1, hz2⟩ := info_parts Tryd.infoEv
      subst hao
      by_cases he : s = ⟨#[]⟩
      · obtain ⟨g1, g2⟩ := hs1 he
        have HG1 : Hid (relF (l.take (k + 1)) = L1 ++ [(s, i)]) := g1
        have HG2 : Hid (othF (l.take (k + 1)) = L2) := g2
        clear hs1 hs2 g1 g2
        subst he
        go_wp2_with fail
        rw [← HWY.out]
        refine (bareC _ i go gn gc _ (by omega)).mono ?_
        rintro e w4 ⟨rfl, hb4⟩
        have HS4 : Hid (TwoSt w w4 (.slice o1 L1.length c1) (.slice o2 L2.length c2) L1 L2) := HSY.out.later hb4
        have HO : Hid (w4.ownsRow w.heap.size 35 3 (.slice o1 L1.length c1) L1.length (evC (bareV L1))) := HS4.out.a.own
        have hbig : w.heap.size ≤ w4.heap.size := HS4.out.a.bel.size
        clear hb4 HSY HWY
        go_wp2_with (at_builtin; refine wpList_append_lies _ rfl _ _ 24 rfl w.heap.size 35 i0 (.agg #[.string ⟨#[]⟩, .int .i64 0, .slice none 0 0]) 3 48 Tryd.underlying24 hi hz0 hz1 hz2 rfl (by decide) _ _ _ rfl (World.ownsRow.alloc HO.out _) ⟨w4.heap.size, 0, none⟩ 1 1 [.string ⟨#[]⟩, .int .i64 i, .slice none 0 0] rfl rfl ?c1 ?c2 (by decide) ?c3 ?c4 ?c5 _ rfl ?_)
        case c1 => exact three_at _ _ _ _ _
        case c2 => intro u hu; simp at hu; rcases hu with rfl | rfl | rfl <;> rfl
        case c3 => unfold maxLen; omega
        case c4 => omega
        case c5 => simp; omega
        · intro g cap w5 hown5 hgrow5 hat5 _
          have HNX : Hid (TwoSt w w5 (.slice (some ⟨g, 0, none⟩) (L1.length + 1) cap) (.slice o2 L2.length c2) (L1 ++ [(⟨#[]⟩, i)]) L2) := HS4.out.step hown5 hgrow5 hat5 (by simp)
          clear hown5 hgrow5 hat5
          go_wp2
          go_roundw
          case rel => exact ⟨k + 1, by omega, by go_num, by rw [HG1.out, HG2.out]; exact HNX⟩
          case measure => simp [intOf]; omega
      · obtain ⟨g1, g2⟩ := hs2 he
        have HG1 : Hid (relF (l.take (k + 1)) = L1) := g1
        have HG2 : Hid (othF (l.take (k + 1)) = L2 ++ [(s, i)]) := g2
        have be := empty_ne he
        clear hs1 hs2 g1 g2 he
        go_wp2_with fail
        rw [← HWY.out]
        refine (bareC _ i go gn gc _ (by omega)).mono ?_
        rintro e w4 ⟨rfl, hb4⟩
        have HS4 : Hid (TwoSt w w4 (.slice o2 L2.length c2) (.slice o1 L1.length c1) L2 L1) := (HSY.out.later hb4).turn
        have HO : Hid (w4.ownsRow w.heap.size 35 3 (.slice o2 L2.length c2) L2.length (evC (bareV L2))) := HS4.out.a.own
        have hbig : w.heap.size ≤ w4.heap.size := HS4.out.a.bel.size
        clear hb4 HSY HWY
        go_wp2_with (at_builtin; refine wpList_append_lies _ rfl _ _ 24 rfl w.heap.size 35 i0 (.agg #[.string ⟨#[]⟩, .int .i64 0, .slice none 0 0]) 3 48 Tryd.underlying24 hi hz0 hz1 hz2 rfl (by decide) _ _ _ rfl (World.ownsRow.alloc HO.out _) ⟨w4.heap.size, 0, none⟩ 1 1 [.string s, .int .i64 i, .slice none 0 0] rfl rfl ?c1 ?c2 (by decide) ?c3 ?c4 ?c5 _ rfl ?_)
        case c1 => exact three_at _ _ _ _ _
        case c2 => intro u hu; simp at hu; rcases hu with rfl | rfl | rfl <;> rfl
        case c3 => unfold maxLen; omega
        case c4 => omega
        case c5 => simp; omega
        · intro g cap w5 hown5 hgrow5 hat5 _
          have HNX : Hid (TwoSt w w5 (.slice o1 L1.length c1) (.slice (some ⟨g, 0, none⟩) (L2.length + 1) cap) L1 (L2 ++ [(s, i)])) := (HS4.out.step hown5 hgrow5 hat5 (by simp)).turn
          clear hown5 hgrow5 hat5
          go_wp2
          go_roundw
          case rel => exact ⟨k + 1, by omega, by go_num, by rw [HG1.out, HG2.out]; exact HNX⟩
          case measure => simp [intOf]; omega
    · have HF : Hid (l.take k = l) := by
        show _ = _
        rw [List.take_of_length_le (by have := HN.out; omega)]
      go_wp2
      go_ret2
      refine ⟨_, _, rfl, ?_⟩
      have h := HS.out
      rw [HF.out] at h
      exact h
end Go.Proofs.YtfhpmnghakhlkaaDoor
