/- Bounds cloned and reversed. -/
import Derived.Test.YtnligpcfkmdjeaaGreatDoorSvH
import Derived.Test.YtnligpcfkmdjeaaGreatDoorShelfR
import Derived.Deep.RegionLaw
import Derived.Lib.SliceRun
import Derived.Laws.Cover3
namespace Go.Proofs.YtnligpcfkmdjeaaGreatDoor
open Go.RowKit

/- What a bound's cells hold. -/
structure BdL (w : World) (x : RBd) (y : BdV) : Prop where
  c0 : IntsAt w (slv y.s0) x.src
  c1 : LabVal w (slv y.s1) x.lab
  c2 : y.d2 = x.dst
  c3 : LabVal w (slv y.s3) x.into
  c4 : y.p4 = x.pos
  c5 : ReadersAt w (slv y.s5) x.by_
theorem BdL.later {w w' : World} {x : RBd} {y : BdV} (h : BdL w x y) (hb : Below w.heap.size w w') : BdL w' x y := ⟨h.c0.later hb, h.c1.later hb, h.c2, h.c3.later hb, h.c4, h.c5.later hb⟩
structure BdC (w : World) (b off : Nat) (L : List BdV) : Prop where
  cell : ∀ k (h : k < L.length) i, i < 6 → w.cell? ⟨b, off + k * 6 + i, none⟩ = (encB L[k])[i]?
theorem bd_vals {w : World} {b off : Nat} {x : RBd} (h : BdAt w b off x) : ∃ y, BdL w x y ∧ ∀ i, i < 6 → w.cell? ⟨b, off + i, none⟩ = (encB y)[i]? := by
  obtain ⟨v0, a0, b0⟩ := h.c0
  obtain ⟨v1, a1, b1⟩ := h.c1
  obtain ⟨v3, a3, b3⟩ := h.c3
  obtain ⟨v5, a5, b5⟩ := h.c5
  have a2 := h.c2
  have a4 := h.c4
  obtain ⟨s0, rfl⟩ : ∃ s, v0 = slv s := by obtain ⟨io, _, _, ic, e, _⟩ := b0; exact ⟨(io, _, ic), e⟩
  obtain ⟨s1, rfl⟩ : ∃ s, v1 = slv s := by obtain ⟨io, _, _, n, ic, e, _⟩ := b1; exact ⟨(io, n, ic), e⟩
  obtain ⟨s3, rfl⟩ : ∃ s, v3 = slv s := by obtain ⟨io, _, _, n, ic, e, _⟩ := b3; exact ⟨(io, n, ic), e⟩
  obtain ⟨s5, rfl⟩ : ∃ s, v5 = slv s := by obtain ⟨io, _, _, ic, e, _⟩ := b5; exact ⟨(io, _, ic), e⟩
  refine ⟨⟨s0, s1, x.dst, s3, x.pos, s5⟩, ⟨b0, b1, rfl, b3, rfl, b5⟩, fun i hi => ?_⟩
  match i, hi with
  | 0, _ => exact a0
  | 1, _ => exact a1
  | 2, _ => exact a2
  | 3, _ => exact a3
  | 4, _ => exact a4
  | 5, _ => exact a5
theorem bds_vals {w : World} {b off : Nat} : ∀ {l : List RBd}, (∀ k (h : k < l.length), BdAt w b (off + k * 6) l[k]) → ∃ L : List BdV, L.length = l.length ∧ (∀ k (h1 : k < l.length) (h2 : k < L.length), BdL w l[k] L[k]) ∧ BdC w b off L := by
  intro l h
  have ex : ∀ k, ∃ y : BdV, ∀ hk : k < l.length, BdL w l[k] y ∧ ∀ i, i < 6 → w.cell? ⟨b, off + k * 6 + i, none⟩ = (encB y)[i]? := fun k => by
    by_cases hk : k < l.length
    · obtain ⟨y, h1, h2⟩ := bd_vals (h k hk)
      exact ⟨y, fun _ => ⟨h1, h2⟩⟩
    · exact ⟨default, fun h => absurd h hk⟩
  obtain ⟨f, hf⟩ := Classical.axiomOfChoice ex
  refine ⟨(List.range l.length).map f, by simp, fun k h1 h2 => ?_, ⟨fun k h2 i hi => ?_⟩⟩
  · simpa using (hf k h1).1
  · have h1 : k < l.length := by simpa using h2
    simpa using (hf k h1).2 i hi
theorem bds_of {w : World} {ao : Option Addr} {b off : Nat} {l : List RBd} {L : List BdV} (ha : 0 < l.length → ao = some ⟨b, off, none⟩) (e : L.length = l.length) (h1 : ∀ k (h1 : k < l.length) (h2 : k < L.length), BdL w l[k] L[k]) (h2 : BdC w b off L) : Bds w ao b off l := by
  refine ⟨ha, fun k hk => ?_⟩
  have hk' : k < L.length := by omega
  have hl := h1 k hk hk'
  have hc := fun i hi => h2.cell k hk' i hi
  have d2 := hl.c2
  have d4 := hl.c4
  refine ⟨⟨_, hc 0 (by omega), hl.c0⟩, ⟨_, hc 1 (by omega), hl.c1⟩, (hc 2 (by omega)).trans ?_, ⟨_, hc 3 (by omega), hl.c3⟩, (hc 4 (by omega)).trans ?_, ⟨_, hc 5 (by omega), hl.c5⟩, World.block_lt_of_cell? w _ (hc 0 (by omega))⟩
  · show some (Value.int .i64 L[k].d2) = _
    rw [d2]
  · show some (Value.int .i64 L[k].p4) = _
    rw [d4]
def bdF (L : List BdV) : List Value := L.flatMap encB
theorem bdF_len : ∀ L : List BdV, (bdF L).length = L.length * 6
  | [] => rfl
  | y :: r => by
    have := bdF_len r
    simp only [bdF, List.flatMap_cons, List.length_append, List.length_cons] at this ⊢
    rw [encB_len, this]
    omega
theorem bdF_at : ∀ (L : List BdV) (k : Nat) (hk : k < L.length) (i : Nat), i < 6 → (bdF L)[k * 6 + i]? = (encB L[k])[i]?
  | y :: r, 0, _, i, hi => by
    show (encB y ++ bdF r)[0 * 6 + i]? = _
    rw [Nat.zero_mul, Nat.zero_add, List.getElem?_append_left (by rw [encB_len]; exact hi)]
    rfl
  | y :: r, k + 1, hk, i, hi => by
    show (encB y ++ bdF r)[(k + 1) * 6 + i]? = _
    rw [List.getElem?_append_right (by rw [encB_len]; omega)]
    have e : (k + 1) * 6 + i - (encB y).length = k * 6 + i := by rw [encB_len]; omega
    rw [e, bdF_at r k (by simpa using hk) i hi]
    rfl
theorem bdF_one (L : List BdV) : ∀ u ∈ bdF L, u.oneCell' = true := fun u hu => by
  obtain ⟨y, _, hy⟩ := List.mem_flatMap.1 hu
  exact encB_one y u hy
theorem below_put {w : World} {g n m : Nat} {B : Nat} {d : Array BdV} (hg : B ≤ g) : Below B w (Sort.putRowK encB 6 (Sort.ahead w n) g m d) := by
  refine ⟨rfl, rfl, rfl, ?_, fun k hk => ?_⟩
  · simp [Sort.putRowK, Sort.putRow, Sort.mapBlock, Sort.ahead]
  · have hkg : g ≠ k := by omega
    simp [Sort.putRowK, Sort.putRow, Sort.mapBlock, Sort.ahead, Array.getElem?_modify, hkg]


theorem eql_nilB (a : Addr) (n c : Nat) (w : World) : (binOp .eql 24 (.slice (some a) n c) (.slice none 0 0)).run Tryz.prog w = .ok (.bool false) w := by
  show (Bind.bind (Op.equal 24 (.slice (some a) n c) (.slice none 0 0)) fun r => (Pure.pure (Value.bool r) : Sem Value)).run Tryz.prog w = _
  simp [run_equal_slice_nil w 24 48 (some a) n c Tryz.underlying24]
set_option maxHeartbeats 1000000 in
theorem cloneH (a : Addr) (n c : Nat) (news : List Value) (w : World) (hl : news.length = n * 6) (hm : n ≤ 400) (hc : ∀ j u, news[j]? = some u → w.cell? (a.add j) = some u) (h1 : ∀ u ∈ news, u.oneCell' = true) :
    Calls Tryz.prog 24 #[.slice (some a) n c] w fun e w' => ∃ v, e = .returned v ∧ w'.ownsRow w.heap.size 48 6 v n news ∧ Below w.heap.size w w' := by
  have HL : Hid (news.length = n * 6) := hl
  have HC : Hid (∀ j u, news[j]? = some u → w.cell? (a.add j) = some u) := hc
  have H1 : Hid (∀ u ∈ news, u.oneCell' = true) := h1
  clear hl hc h1
  obtain ⟨i0, hi, hz0, hz1, hz2⟩ := info_parts Tryz.infoBdR
  have hnil := fun wx => eql_nilB a n c wx
  go_enter Tryz.func24, Tryz.ntmps24
  have HO : Hid ((w.alloc (.cells #[] 48)).ownsRow w.heap.size 48 6 (.slice (some ⟨w.heap.size, 0, none⟩) 0 0) 0 []) :=
    ⟨rfl, .inr ⟨w.heap.size, 0, #[], rfl, Nat.le_refl _, heap_at_alloc _ _ _ rfl, Nat.le_refl _, by simp [maxLen], rfl, rfl⟩⟩
  go_wp2_with (at_builtin; refine wpList_append_own _ rfl _ _ 24 rfl w.heap.size 48 i0 (.agg #[.slice none 0 0, .slice none 0 0, .int .i64 0, .slice none 0 0, .int .i64 0, .slice none 0 0]) 6 112 Tryz.underlying24 hi hz0 hz1 hz2 rfl (by decide) _ _ _ rfl HO.out a n c news rfl ?c0 ?c1 ?c2 ?c3 ?c4 ?c5 ?_)
  case c0 => rw [HL.out]
  case c1 =>
    have hb : Below w.heap.size w (w.alloc (.cells #[] 48)) := (Below.refl _ _).alloc (Nat.le_refl _) _
    exact fun j u hu => cell_below hb (HC.out j u hu)
  case c2 => exact H1.out
  case c3 => unfold maxLen; omega
  case c4 => omega
  case c5 => simp
  · intro v' w2 hown2 hgrow2 _
    have HB : Hid (Below w.heap.size w w2) := ((Below.refl w.heap.size w).alloc (Nat.le_refl _) _).grown hgrow2 (by simp) (fun k he => by simp [Value.ownBlock] at he; omega)
    have HW : Hid (w2.ownsRow w.heap.size 48 6 v' n news) := by
      show World.ownsRow _ _ _ _ _ _ _
      simpa using hown2
    clear hown2 hgrow2
    go_wp2
    go_ret
    exact ⟨_, rfl, HW.out, HB.out⟩

/- Clone, and then Reverse: the bounds in turned order, in a row of their own. -/
theorem cloneBds (lo : Option Addr) (lb loff ln lc : Nat) (l : List RBd) (w : World) (hl : Bds w lo lb loff l) (hn : ln = l.length) (hm : ln ≤ 400) :
    Calls Tryz.prog 24 #[.slice lo ln lc] w fun e w' => ∃ (mo : Option Addr) (mc : Nat), e = .returned (.slice mo ln mc) ∧ Below w.heap.size w w' ∧
      ∀ w2, Below w'.heap.size w' w2 → Calls Tryz.prog 25 #[.slice mo ln mc] w2 fun e w3 => e = .returned (.tuple #[]) ∧ Below w.heap.size w w3 ∧ ∃ mb, Bds w3 mo mb 0 l.reverse := by
  have hrev : l.length = 0 → ∀ (mo : Option Addr) (mc : Nat) (w' : World), Below w.heap.size w w' → ∀ w2, Below w'.heap.size w' w2 → Calls Tryz.prog 25 #[.slice mo ln mc] w2 fun e w3 => e = .returned (.tuple #[]) ∧ Below w.heap.size w w3 ∧ ∃ mb, Bds w3 mo mb 0 l.reverse := fun h0 mo mc w' hb w2 hb2 => by
    have hn0 : ln = 0 := by omega
    rw [hn0]
    refine (reverseB_none mo mc w2).mono ?_
    rintro e w3 ⟨rfl, rfl⟩
    exact ⟨rfl, hb.trans (hb2.mono hb.size), 0, ⟨fun h => by simp at h; omega, fun k h => by simp at h; omega⟩⟩
  obtain ⟨L, hLl, hL1, hL2⟩ := bds_vals hl.at'
  cases lo with
  | none =>
    have h0 : l.length = 0 := by
      apply Classical.byContradiction
      intro hne
      have := hl.adr (by omega)
      cases this
    have hn0 : ln = 0 := by omega
    refine (cloneB_nil ln lc w).mono ?_
    rintro e w' ⟨rfl, rfl⟩
    exact ⟨none, 0, by rw [hn0], Below.refl _ _, hrev h0 _ _ _ (Below.refl _ _)⟩
  | some a =>
    refine (cloneH a ln lc (bdF L) w (by rw [bdF_len, hLl, hn]) hm (fun j u hu => ?_) (bdF_one L)).mono ?_
    · have hj : j < L.length * 6 := by
        have := (List.getElem?_eq_some_iff.1 hu).1
        rwa [bdF_len] at this
      have ha : some a = some ⟨lb, loff, none⟩ := hl.adr (by omega)
      injection ha with ha
      subst ha
      have hk : j / 6 < L.length := by omega
      have e1 : (⟨lb, loff, none⟩ : Addr).add j = ⟨lb, loff + j / 6 * 6 + j % 6, none⟩ := by
        rw [Addr.add_lit]
        congr 1
        omega
      rw [e1, hL2.cell (j / 6) hk (j % 6) (by omega), ← bdF_at L (j / 6) hk (j % 6) (by omega), ← hu]
      congr 1
      omega
    · rintro e w1 ⟨v, rfl, hown, hb1⟩
      rcases hown.2 with ⟨hv, h0⟩ | ⟨g, cap, cur, hv, hg, hh, hc1, hc2, hsz, htk⟩
      · exact ⟨none, 0, by rw [hv, h0], hb1, hrev (by omega) _ _ _ hb1⟩
      · refine ⟨some ⟨g, 0, none⟩, cap, by rw [hv], hb1, ?_⟩
        by_cases h0 : l.length = 0
        · exact hrev h0 _ _ _ hb1
        · intro w2 hb2
          have hgl : g < w1.heap.size := lt_of_block hh
          have hh2 := (hb2.block g hgl).trans hh
          have hd : L.toArray.size = ln := by simp [hLl, hn]
          have hH : Sort.HoldsK encB 6 w2 g 0 L.toArray := by
            intro j hj
            have hj2 : j < L.toArray.size * 6 := by simpa using hj
            rw [Sort.get_flatK encB 6 L.toArray j hj2]
            have hk : j / 6 < L.length := by simp at hj2; omega
            have e1 : L.toArray[j / 6]! = L[j / 6] := by simp [hk]
            have e2 : (encB L[j / 6])[j % 6]? = some (encB L[j / 6])[j % 6]! := by
              rw [getElem!_pos _ _ (by rw [encB_len]; omega), List.getElem?_eq_getElem]
            refine ⟨?_, by simp [World.frozen?, hh2]⟩
            rw [e1, Nat.zero_add, cell_blk hh2, ← Array.getElem?_toList]
            have e3 : (cur.toList.take (ln * 6))[j]? = (bdF L)[j]? := by rw [htk]
            rw [List.getElem?_take, if_pos (by simp at hj2; omega)] at e3
            have e4 := bdF_at L (j / 6) hk (j % 6) (by omega)
            rw [show j / 6 * 6 + j % 6 = j by omega] at e4
            rw [e3, e4, e2]
            rfl
          have hr := reverseB g 0 cap L.toArray w2 hH (by rw [hd]; omega)
          rw [hd] at hr
          refine hr.mono ?_
          rintro e w3 ⟨rfl, q, rfl⟩
          have hbel : Below w.heap.size w (Sort.putRowK encB 6 (Sort.ahead w2 q) g 0 L.toArray.reverse) := (hb1.trans (hb2.mono hb1.size)).trans (below_put hg)
          have hH2 := Sort.holdsK_putRowK encB 6 (Sort.ahead w2 q) g 0 L.toArray L.toArray.reverse hH (by simp)
          refine ⟨rfl, hbel, g, ?_⟩
          refine bds_of (L := L.reverse) (fun _ => rfl) (by simp [hLl]) (fun k hk hk' => ?_) ⟨fun k hk i hi => ?_⟩
          · simp at hk hk'
            rw [List.getElem_reverse, List.getElem_reverse]
            have := (hL1 (l.length - 1 - k) (by omega) (by omega)).later hbel
            have e5 : L.length - 1 - k = l.length - 1 - k := by omega
            simp only [e5]
            exact this
          · simp at hk
            have hkr : k < L.toArray.reverse.size := by simpa using hk
            rw [(hH2.cell hkr hi).1]
            have e6 : L.toArray.reverse[k]! = L.reverse[k]'(by simpa using hk) := by
              rw [getElem!_pos _ k hkr]
              simp
            rw [e6, getElem!_pos _ _ (by rw [encB_len]; exact hi), List.getElem?_eq_getElem]
end Go.Proofs.YtnligpcfkmdjeaaGreatDoor
