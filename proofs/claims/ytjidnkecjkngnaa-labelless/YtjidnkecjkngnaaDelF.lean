/- slices.DeleteFunc at policies, with whatever test. -/
import Derived.Test.YtjidnkecjkngnaaSortP
import Derived.Deep.CutBlock
namespace Go.Proofs.Ytjidnkecjkngnaa
open Go.RowKit

theorem Try.infoPolD : (Try.prog.info? 51).map (fun i => (i.zero, i.size, i.bytes)) = some (some (.agg #[.string ⟨#[]⟩, .slice none 0 0]), 2, 40) := by kernel_rfl
def zerosP (m : Nat) : List Value := (Builtin.zeroCells (Value.agg #[.string ⟨#[]⟩, .slice none 0 0]).cells m).toList
theorem zerosP_len (m : Nat) : (zerosP m).length = m * 2 := by simp [zerosP, Builtin.zeroCells, Value.cells]
theorem zerosP_one (m : Nat) : ∀ v ∈ zerosP m, v.oneCell' = true := by
  intro v hv
  simp only [zerosP, Builtin.zeroCells, Value.cells] at hv
  simp at hv
  obtain ⟨a, _, rfl⟩ := hv
  rcases Nat.mod_two_eq_zero_or_one a with e | e <;> rw [e] <;> rfl
theorem clear_pol (w : World) (ty : TypeId) (b o c m : Nat) (hm : 0 < m) (hc : ∀ j, j < m * 2 → (w.cell? ⟨b, o + j, none⟩).isSome = true) (hf : ∀ j, j < m * 2 → w.frozen? ⟨b, o + j, none⟩ = false) :
    (Builtin.clear_ #[23] ty #[.slice (some ⟨b, o, none⟩) m c]).run Try.prog w = .ok (.tuple #[]) (w.setCells b o (zerosP m)) := by
  have hst := run_storeCells_cells (P := Try.prog) b o (zerosP m) 0 w (by rw [zerosP_len]; simpa using hc) (by rw [zerosP_len]; simpa using hf) (zerosP_one m)
  simp only [Nat.add_zero] at hst
  have hz : (Builtin.zeroCells (Value.agg #[.string ⟨#[]⟩, .slice none 0 0]).cells m).toList = zerosP m := rfl
  obtain ⟨k, rfl⟩ := Nat.exists_eq_succ_of_ne_zero (Nat.pos_iff_ne_zero.1 hm)
  simp [Builtin.clear_, run_underlying Try.underlying23, Try.zeroValue51, hz, hst]

/- What DeleteFunc's loop holds: the kept ones stand first, those that are to come lie as they lay. -/
structure DelSt (w wr : World) (g cap : Nat) (L K : List PV) (j : Nat) : Prop where
  gr : w.grownBy wr (some g)
  blk : ∃ cur : Array Value, wr.heap[g]? = some (.cells cur 51 (0, 0)) ∧ cur.size = cap * 2
  lo : RowP wr g K
  hi0 : ∀ k (_ : j ≤ k) (h : k < L.length), wr.cell? ⟨g, k * 2, none⟩ = some (.string L[k].1.1)
  hi1 : ∀ k (_ : j ≤ k) (h : k < L.length), wr.cell? ⟨g, k * 2 + 1, none⟩ = some L[k].2
theorem RowP.kept {w w' : World} {g : Nat} {L : List PV} (h : RowP w g L) (e : w'.heap[g]? = w.heap[g]?) : RowP w' g L := by
  refine ⟨fun k hk => ?_, fun k hk => ?_⟩
  · have := h.c0 k hk; simp only [World.cell?, e] at this ⊢; exact this
  · have := h.c1 k hk; simp only [World.cell?, e] at this ⊢; exact this
theorem DelSt.later {w wr w1 : World} {g cap : Nat} {L K : List PV} {j : Nat} (h : DelSt w wr g cap L K j) (hb : Below wr.heap.size wr w1) : DelSt w w1 g cap L K j := by
  obtain ⟨cur, h1, h2⟩ := h.blk
  have e : w1.heap[g]? = wr.heap[g]? := hb.block _ (lt_of_block h1)
  refine ⟨⟨hb.os.trans h.gr.os, hb.tape.trans h.gr.tape, hb.output.trans h.gr.output, Nat.le_trans h.gr.size hb.size, fun k hk hne => (hb.block k (Nat.lt_of_lt_of_le hk h.gr.size)).trans (h.gr.block k hk hne)⟩, ⟨cur, e.trans h1, h2⟩, h.lo.kept e, fun k hj hk => ?_, fun k hj hk => ?_⟩
  · have := h.hi0 k hj hk; simp only [World.cell?, e] at this ⊢; exact this
  · have := h.hi1 k hj hk; simp only [World.cell?, e] at this ⊢; exact this
theorem heap_set_at {w : World} {g o : Nat} {cur : Array Value} {e : TypeId} {fr : Nat × Nat} (h : w.heap[g]? = some (.cells cur e fr)) (u : Value) : (w.setCell ⟨g, o, none⟩ u).heap[g]? = some (.cells (cur.setIfInBounds o u) e fr) := by
  simp [World.setCell, Array.getElem?_modify, h]
theorem DelSt.put {w wr : World} {g cap : Nat} {L K : List PV} {j : Nat} (h : DelSt w wr g cap L K j) (x : PV) (hKj : K.length ≤ j) (hjc : j < cap) : DelSt w ((wr.setCell ⟨g, K.length * 2, none⟩ (.string x.1.1)).setCell ⟨g, K.length * 2 + 1, none⟩ x.2) g cap L (K ++ [x]) (j + 1) := by
  obtain ⟨cur, h1, h2⟩ := h.blk
  have e1 := heap_set_at (o := K.length * 2) h1 (.string x.1.1)
  have e2 := heap_set_at (o := K.length * 2 + 1) e1 x.2
  have cell : ∀ o, ((wr.setCell ⟨g, K.length * 2, none⟩ (.string x.1.1)).setCell ⟨g, K.length * 2 + 1, none⟩ x.2).cell? ⟨g, o, none⟩ = if o = K.length * 2 + 1 then some x.2 else if o = K.length * 2 then some (.string x.1.1) else wr.cell? ⟨g, o, none⟩ := by
    intro o
    have b0 : K.length * 2 < cap * 2 := by omega
    have b1 : K.length * 2 + 1 < cap * 2 := by omega
    simp only [World.cell?, e2, h1, Array.getElem?_setIfInBounds, Array.size_setIfInBounds, h2]
    by_cases c1 : o = K.length * 2 + 1
    · subst c1; simp [b1]
    · by_cases c2 : o = K.length * 2
      · subst c2; simp [b0]
      · simp [c1, c2, Ne.symm c1, Ne.symm c2]
  refine ⟨⟨h.gr.os, h.gr.tape, h.gr.output, by simpa [World.setCell] using h.gr.size, fun k hk hne => ?_⟩, ⟨_, e2, by simp [h2]⟩, ⟨fun k hk => ?_, fun k hk => ?_⟩, fun k hj hk => ?_, fun k hj hk => ?_⟩
  · have hkg : k ≠ g := fun e => hne (by rw [e])
    rw [Below.heap_setCell _ _ _ _ (by simpa using hkg), Below.heap_setCell _ _ _ _ (by simpa using hkg)]
    exact h.gr.block k hk hne
  · rw [cell, if_neg (by omega)]
    by_cases hkK : k = K.length
    · subst hkK; simp
    · have : k < K.length := by simp at hk; omega
      rw [if_neg (by omega), List.getElem_append_left this]
      exact h.lo.c0 k this
  · rw [cell]
    by_cases hkK : k = K.length
    · subst hkK; simp
    · have : k < K.length := by simp at hk; omega
      rw [if_neg (by omega), if_neg (by omega), List.getElem_append_left this]
      exact h.lo.c1 k this
  · rw [cell, if_neg (by omega), if_neg (by omega)]
    exact h.hi0 k (by omega) hk
  · rw [cell, if_neg (by omega), if_neg (by omega)]
    exact h.hi1 k (by omega) hk
theorem DelSt.skip {w wr : World} {g cap : Nat} {L K : List PV} {j : Nat} (h : DelSt w wr g cap L K j) : DelSt w wr g cap L K (j + 1) :=
  ⟨h.gr, h.blk, h.lo, fun k hj hk => h.hi0 k (by omega) hk, fun k hj hk => h.hi1 k (by omega) hk⟩
theorem first_at {t : Pol → Bool} {L : List PV} (h : (L.map (·.1)).any t = true) : ∃ i : Nat, firstI t (L.map (·.1)) = (i : Int) ∧ ∃ hi : i < L.length, t L[i].1 = true ∧ ∀ x ∈ L.take i, t x.1 = false := by
  refine ⟨(L.map (·.1)).findIdx t, by simp [firstI, h], ?_⟩
  have hlt : (L.map (·.1)).findIdx t < (L.map (·.1)).length := List.findIdx_lt_length.2 (List.any_eq_true.1 h)
  have hi : (L.map (·.1)).findIdx t < L.length := by simpa using hlt
  refine ⟨hi, ?_, fun x hx => ?_⟩
  · have := List.findIdx_getElem (w := hlt)
    simpa using this
  · obtain ⟨j, hj, rfl⟩ := List.mem_take_iff_getElem.1 hx
    have := List.not_of_lt_findIdx (p := t) (xs := L.map (·.1)) (i := j) (by omega)
    simpa using this
def keepT (t : Pol → Bool) (L : List PV) : List PV := L.filter fun x => !t x.1
theorem keep_take {t : Pol → Bool} {L : List PV} {i : Nat} (h : ∀ x ∈ L.take i, t x.1 = false) : keepT t (L.take i) = L.take i := by
  unfold keepT
  rw [List.filter_eq_self]
  intro x hx
  simp [h x hx]
theorem keep_step {t : Pol → Bool} {L : List PV} {j : Nat} (hj : j < L.length) : keepT t (L.take (j + 1)) = keepT t (L.take j) ++ (if t L[j].1 = true then [] else [L[j]]) := by
  unfold keepT
  rw [List.take_succ_eq_append_getElem hj, List.filter_append]
  congr 1
  cases h : t L[j].1 <;> simp [h]
theorem keep_len (t : Pol → Bool) (L : List PV) (j : Nat) : (keepT t (L.take j)).length ≤ j := by
  unfold keepT
  have h1 := List.length_filter_le (fun x : PV => !t x.1) (L.take j)
  have h2 := List.length_take_le j L
  omega

theorem take_of_rowP {w : World} {g : Nat} {cur : Array Value} {e : TypeId} {fr : Nat × Nat} {K : List PV} (h : RowP w g K) (hh : w.heap[g]? = some (.cells cur e fr)) (hs : K.length * 2 ≤ cur.size) : cur.toList.take (K.length * 2) = polC K := by
  have _ := hs
  apply List.ext_getElem?
  intro o
  by_cases ho : o < K.length * 2
  · rw [List.getElem?_take_of_lt ho, Array.getElem?_toList]
    have hk : o / 2 < K.length := by omega
    obtain ⟨g0, g1⟩ := polC_at K (o / 2) hk
    rcases Nat.mod_two_eq_zero_or_one o with em | em
    · have e1 : o / 2 * 2 = o := by omega
      have := h.c0 (o / 2) hk
      rw [e1] at this g0
      rw [g0]
      simpa [World.cell?, hh] using this
    · have e1 : o / 2 * 2 + 1 = o := by omega
      have := h.c1 (o / 2) hk
      rw [e1] at this g1
      rw [g1]
      simpa [World.cell?, hh] using this
  · rw [List.getElem?_eq_none (by rw [List.length_take]; omega), List.getElem?_eq_none (by rw [polC_len]; omega)]
theorem heap_setCells {g : Nat} {e : TypeId} {fr : Nat × Nat} : ∀ (vs : List Value) (o : Nat) (w : World) (cur : Array Value), w.heap[g]? = some (.cells cur e fr) → ∃ cur' : Array Value, (w.setCells g o vs).heap[g]? = some (.cells cur' e fr) ∧ cur'.size = cur.size ∧ (∀ k, k < o → cur'[k]? = cur[k]?) ∧ w.grownBy (w.setCells g o vs) (some g)
  | [], _, w, cur, h => ⟨cur, h, rfl, fun _ _ => rfl, ⟨rfl, rfl, rfl, Nat.le_refl _, fun _ _ _ => rfl⟩⟩
  | v :: r, o, w, cur, h => by
    have h1 := heap_set_at (o := o) h v
    obtain ⟨cur', k1, k2, k3, k4⟩ := heap_setCells r (o + 1) _ _ h1
    refine ⟨cur', k1, by rw [k2]; simp, fun k hk => ?_, ?_⟩
    · rw [k3 k (by omega), Array.getElem?_setIfInBounds, if_neg (by omega)]
    · refine ⟨k4.os, k4.tape, k4.output, Nat.le_trans (by simp [World.setCell]) k4.size, fun k hk hne => ?_⟩
      have hkg : k ≠ g := fun e => hne (by rw [e])
      rw [show (w.setCells g o (v :: r)) = (w.setCell ⟨g, o, none⟩ v).setCells g (o + 1) r from rfl, k4.block k (by simpa [World.setCell] using hk) hne]
      exact Below.heap_setCell _ _ _ _ (by simpa using hkg)
theorem grown_of_below {w w' : World} {g : Option Nat} (hb : Below w.heap.size w w') : w.grownBy w' g := ⟨hb.os, hb.tape, hb.output, hb.size, fun k hk _ => hb.block k hk⟩
theorem DelSt.done {w wr : World} {g cap base : Nat} {L K : List PV} {j n : Nat} (h : DelSt w wr g cap L K j) (hn : K.length < n) (hc : n ≤ cap) (hm : cap ≤ maxLen) (hb : base ≤ g) : (wr.setCells g (K.length * 2) (zerosP (n - K.length))).ownsRow base 51 2 (.slice (some ⟨g, 0, none⟩) K.length cap) K.length (polC K) ∧ w.grownBy (wr.setCells g (K.length * 2) (zerosP (n - K.length))) (some g) := by
  obtain ⟨cur, h1, h2⟩ := h.blk
  obtain ⟨cur', k1, k2, k3, k4⟩ := heap_setCells (zerosP (n - K.length)) (K.length * 2) wr cur h1
  have ht := take_of_rowP h.lo h1 (by omega)
  refine ⟨⟨by rw [polC_len], .inr ⟨g, cap, cur', rfl, hb, k1, by omega, hm, by omega, ?_⟩⟩, ⟨k4.os.trans h.gr.os, k4.tape.trans h.gr.tape, k4.output.trans h.gr.output, Nat.le_trans h.gr.size k4.size, fun k hk hne => (k4.block k (Nat.lt_of_lt_of_le hk h.gr.size) hne).trans (h.gr.block k hk hne)⟩⟩
  rw [← ht]
  apply List.ext_getElem?
  intro o
  by_cases ho : o < K.length * 2
  · rw [List.getElem?_take_of_lt ho, List.getElem?_take_of_lt ho, Array.getElem?_toList, Array.getElem?_toList, k3 o ho]
  · rw [List.getElem?_eq_none (by rw [List.length_take]; omega), List.getElem?_eq_none (by rw [List.length_take]; omega)]
theorem pols_of {w : World} {g : Nat} {L : List PV} (h : RowP w g L) (hg : g < w.heap.size) (ho : ∀ x ∈ L, ReadersAt w x.2 x.1.2) : Pols w (some ⟨g, 0, none⟩) g 0 (L.map (·.1)) := by
  refine ⟨fun _ => rfl, fun k hk => ?_, fun k hk => ?_, fun _ => hg⟩
  · rw [List.length_map] at hk
    rw [Nat.zero_add, List.getElem_map]; exact h.c0 k hk
  · rw [List.length_map] at hk
    refine ⟨L[k].2, by rw [Nat.zero_add]; exact h.c1 k hk, ?_⟩
    rw [List.getElem_map]; exact ho _ (List.getElem_mem hk)
theorem pols_nil (w : World) (ao : Option Addr) : Pols w ao 0 0 [] := ⟨fun h => by simp at h, fun k h => by simp at h, fun k h => by simp at h, fun h => by simp at h⟩

set_option maxRecDepth 100000 in
set_option maxHeartbeats 4000000 in
theorem delF (fn : Nat) (lb : Array Value) (eg : ∀ args w, (callFunc fn args).run Try.prog w = .ok (.enter fn args) w) (t : Pol → Bool) (base : Nat) (ao : Option Addr) (n cap : Nat) (L : List PV) (w : World) (hn : n = L.length) (hm : n ≤ 1000) (hown : w.ownsRow base 51 2 (.slice ao n cap) n (polC L)) (hoff : ∀ x ∈ L, Off w (Value.slice ao n cap).ownBlock x)
    (hp : ∀ (W : World) (p : Pol) (v : Value), p ∈ L.map (·.1) → ReadersAt W v p.2 → w.grownBy W (Value.slice ao n cap).ownBlock → Calls Try.prog fn (#[.agg #[.string p.1, v]] ++ lb) W fun e w' => e = .returned (.bool (t p)) ∧ Below W.heap.size W w') :
    Calls Try.prog 62 #[.slice ao n cap, .func (.func fn) #[] lb] w fun e w' => e = .returned (.slice ao (keepT t L).length cap) ∧ w'.ownsRow base 51 2 (.slice ao (keepT t L).length cap) (keepT t L).length (polC (keepT t L)) ∧ w.grownBy w' (Value.slice ao n cap).ownBlock := by
  have hcp := own_cap hown
  by_cases hany : ((L.map (·.1)).any t) = false
  · have hfi : firstI t (L.map (·.1)) = -1 := by simp [firstI, hany]
    have hk : keepT t L = L := by
      unfold keepT
      rw [List.filter_eq_self]
      intro x hx
      have := List.any_eq_false.1 hany x.1 (List.mem_map.2 ⟨x, hx, rfl⟩)
      simpa using this
    have hpols : ∃ b off, Pols w ao b off (L.map (·.1)) := by
      by_cases hL : L = []
      · subst hL; exact ⟨0, 0, pols_nil w ao⟩
      · rcases hown.2 with ⟨_, h2⟩ | ⟨g, c, cur, h1, h2, h3, h4, h5, h6, h7⟩
        · exact absurd (List.length_eq_zero_iff.1 (hn ▸ h2)) hL
        · injection h1 with h1 _ _
          subst h1
          exact ⟨g, 0, pols_of (rowP_of h3 (by rw [← hn]; exact h7)) (lt_of_block h3) (fun x hx => (hoff x hx).at')⟩
    obtain ⟨b, off, hpo⟩ := hpols
    have hix := indexFuncP fn lb eg t ao b off n cap (L.map (·.1)) w (by rw [List.length_map]; exact hn) hm hpo (fun W p v hp1 hp2 hp3 => hp W p v hp1 hp2 (grown_of_below hp3))
    rw [hfi] at hix
    rw [hk]
    have HO : Hid (w.ownsRow base 51 2 (.slice ao n cap) n (polC L)) := hown
    have HN : Hid (L.length = n) := hn.symm
    rw [HN.out]
    clear hany hfi hk hpo hown hoff hp hn
    go_enter Try.func62, Try.ntmps62
    go_wp2_with fail
    refine hix.mono ?_
    rintro e w1 ⟨rfl, hb1⟩
    go_wp2
    go_ret
    exact ⟨rfl, own_below HO.out hb1, grown_of_below hb1⟩
  · have hany' : ((L.map (·.1)).any t) = true := by simpa using hany
    obtain ⟨i, hfi, hi, hti, hpre⟩ := first_at hany'
    obtain ⟨g, hao, hbg, cur, h3, h6, h7⟩ : ∃ g, ao = some ⟨g, 0, none⟩ ∧ base ≤ g ∧ ∃ cur : Array Value, w.heap[g]? = some (.cells cur 51 (0, 0)) ∧ cur.size = cap * 2 ∧ cur.toList.take (L.length * 2) = polC L := by
      rcases hown.2 with ⟨_, h2⟩ | ⟨g, c, cur, h1, h2, h3, _, _, h6, h7⟩
      · omega
      · injection h1 with h1 _ h8
        subst h8
        exact ⟨g, h1, h2, cur, h3, h6, by rw [← hn]; exact h7⟩
    subst hao
    have hrow := rowP_of h3 h7
    have hob : (Value.slice (some ⟨g, 0, none⟩) n cap).ownBlock = some g := rfl
    rw [hob] at hoff hp ⊢
    have hix := indexFuncP fn lb eg t (some ⟨g, 0, none⟩) g 0 n cap (L.map (·.1)) w (by rw [List.length_map]; exact hn) hm (pols_of hrow (lt_of_block h3) (fun x hx => (hoff x hx).at')) (fun W p v hp1 hp2 hp3 => hp W p v hp1 hp2 (grown_of_below hp3))
    rw [hfi] at hix
    have HST0 : Hid (DelSt w w g cap L (keepT t (L.take (i + 1))) (i + 1)) := by
      have e : keepT t (L.take (i + 1)) = L.take i := by rw [keep_step hi, keep_take hpre, if_pos hti, List.append_nil]
      rw [e]
      refine ⟨⟨rfl, rfl, rfl, Nat.le_refl _, fun _ _ _ => rfl⟩, ⟨cur, h3, h6⟩, ⟨fun k hk => ?_, fun k hk => ?_⟩, fun k _ hk => hrow.c0 k hk, fun k _ hk => hrow.c1 k hk⟩
      · rw [List.getElem_take]; exact hrow.c0 k (by simp at hk; omega)
      · rw [List.getElem_take]; exact hrow.c1 k (by simp at hk; omega)
    have HK0 : Hid ((keepT t (L.take (i + 1))).length = i) := by
      show _ = _
      rw [keep_step hi, keep_take hpre, if_pos hti, List.append_nil, List.length_take]; omega
    have HP : Hid (∀ (W : World) (p : Pol) (v : Value), p ∈ L.map (·.1) → ReadersAt W v p.2 → w.grownBy W (some g) → Calls Try.prog fn (#[.agg #[.string p.1, v]] ++ lb) W fun e w' => e = .returned (.bool (t p)) ∧ Below W.heap.size W w') := hp
    have HOFF : Hid (∀ x ∈ L, Off w (some g) x) := hoff
    have HN : Hid (n = L.length) := hn
    have HCM : Hid (cap ≤ maxLen) := hcp.2
    have hnc := hcp.1
    have hin : i < n := by omega
    have hcm := hcp.2
    unfold maxLen at hcm
    clear hany hany' hfi hi hti hpre h3 h6 h7 hrow hob hown hoff hp hn hcp
    go_enter Try.func62, Try.ntmps62
    go_wp2_with fail
    refine hix.mono ?_
    rintro e w1 ⟨rfl, hb1⟩
    have HS1 : Hid (DelSt w w1 g cap L (keepT t (L.take (i + 1))) (i + 1)) := HST0.out.later hb1
    clear hb1 HST0 hix
    have bi : ((i : Int) == -1) = false := by simp
    go_wp2
    go_loopw [5, 6] (fun a b wr => ∃ j : Nat, j ≤ n ∧ b = .int .i64 j ∧ (keepT t (L.take j)).length < j ∧ a = .int .i64 (keepT t (L.take j)).length ∧ Hid (DelSt w wr g cap L (keepT t (L.take j)) j)) (fun _ b _ => n - (intOf b).toNat)
    case atStart => exact ⟨i + 1, by omega, by go_num, by rw [HK0.out]; omega, by rw [HK0.out], HS1⟩
    case round =>
      clear HS1 HK0
      obtain ⟨j, hj, rfl, hkj, rfl, HS⟩ := hrel
      by_cases hlt : j < n
      · have hjl : j < L.length := by have := HN.out; omega
        have f0 := HS.out.hi0 j (Nat.le_refl _) hjl
        have f1 := HS.out.hi1 j (Nat.le_refl _) hjl
        have hks := keep_step (t := t) hjl
        obtain ⟨x, hx⟩ : ∃ x, x = L[j] := ⟨_, rfl⟩
        rw [← hx] at f0 f1 hks
        have hxm : x ∈ L := by rw [hx]; exact List.getElem_mem hjl
        obtain ⟨K, hK⟩ : ∃ K, K = keepT t (L.take j) := ⟨_, rfl⟩
        rw [← hK] at hkj HS hks ⊢
        obtain ⟨q, hq⟩ : ∃ q, q = K.length := ⟨_, rfl⟩
        have HQ : Hid (q = K.length) := hq
        rw [← hq] at hkj ⊢
        have hra := ((HOFF.out x hxm).kept HS.out.gr).at'
        obtain ⟨ro, rc, rn, hv0⟩ : ∃ ro rc rn, x.2 = .slice ro rn rc := by obtain ⟨ro, _, _, rc, h, _⟩ := hra; exact ⟨ro, rc, _, h⟩
        rw [hv0] at f1 hra
        obtain ⟨wy, hwy⟩ : ∃ wy, wy = wr.alloc (.cells #[.string x.1.1, .slice ro rn rc] 51) := ⟨_, rfl⟩
        have hby : Below wr.heap.size wr wy := by rw [hwy]; exact (Below.refl _ _).alloc (Nat.le_refl _) _
        have HSY : Hid (DelSt w wy g cap L K j) := HS.out.later hby
        have hcall := HP.out wy x.1 (.slice ro rn rc) (List.mem_map.2 ⟨x, hxm, rfl⟩) (hra.later hby) HSY.out.gr
        have HKB : Hid (wy.heap[wr.heap.size]? = some (.cells #[.string x.1.1, .slice ro rn rc] 51 (0, 0))) := by show _ = _; rw [hwy]; exact heap_at_alloc _ _ _ rfl
        have HWY : Hid (wy = wr.alloc (.cells #[.string x.1.1, .slice ro rn rc] 51)) := hwy
        have HX2 : Hid (x.2 = .slice ro rn rc) := hv0
        have hgw : g < wr.heap.size := by obtain ⟨c, h1, _⟩ := HS.out.blk; exact lt_of_block h1
        clear hx hxm hK hq hra hv0 hby hwy HS
        cases ht : t x.1 with
        | true =>
          rw [ht] at hcall hks
          have HKS : Hid (keepT t (L.take (j + 1)) = K) := by show _ = _; rw [hks]; simp
          clear ht hks
          go_wp2_with fail
          rw [← HWY.out]
          refine hcall.mono ?_
          rintro e w2 ⟨rfl, hb2⟩
          have HS2 : Hid (DelSt w w2 g cap L K (j + 1)) := (HSY.out.later hb2).skip
          clear hb2
          go_wp2
          go_roundw
          case rel => exact ⟨j + 1, by omega, by go_num, by rw [HKS.out, ← HQ.out]; omega, by rw [HKS.out, ← HQ.out], by rw [HKS.out]; exact HS2⟩
          case measure => simp [intOf]; omega
        | false =>
          rw [ht] at hcall hks
          have HKS : Hid (keepT t (L.take (j + 1)) = K ++ [x]) := by show _ = _; rw [hks]; simp
          clear ht hks
          go_wp2_with fail
          rw [← HWY.out]
          refine hcall.mono ?_
          rintro e w2 ⟨rfl, hb2⟩
          have HS2 : Hid (DelSt w w2 g cap L K j) := HSY.out.later hb2
          have kb : w2.heap[wr.heap.size]? = some (.cells #[.string x.1.1, .slice ro rn rc] 51 (0, 0)) := (hb2.block _ (lt_of_block HKB.out)).trans HKB.out
          have c0 : w2.cell? ⟨wr.heap.size, 0, none⟩ = some (.string x.1.1) := by simp [World.cell?, kb]
          have c1 : w2.cell? ⟨wr.heap.size, 1, none⟩ = some (.slice ro rn rc) := by simp [World.cell?, kb]
          have lb2 : wr.heap.size < w2.heap.size := lt_of_block kb
          obtain ⟨cu, hc1, hc2⟩ := HS2.out.blk
          obtain ⟨u0, d0⟩ : ∃ u0, w2.cell? ⟨g, q * 2, none⟩ = some u0 := ⟨cu[q * 2]'(by omega), by simp [World.cell?, hc1]⟩
          obtain ⟨u1, d1⟩ : ∃ u1, w2.cell? ⟨g, q * 2 + 1, none⟩ = some u1 := ⟨cu[q * 2 + 1]'(by omega), by simp [World.cell?, hc1]⟩
          have z0 : w2.frozen? ⟨g, q * 2, none⟩ = false := by simp [World.frozen?, hc1]
          have z1 : w2.frozen? ⟨g, q * 2 + 1, none⟩ = false := by simp [World.frozen?, hc1]
          have lg2 : g < w2.heap.size := lt_of_block hc1
          have hiq : (q : Int) < (n : Int) := by omega
          have HS3 : Hid (DelSt w ((w2.setCell ⟨g, q * 2, none⟩ (.string x.1.1)).setCell ⟨g, q * 2 + 1, none⟩ (.slice ro rn rc)) g cap L (K ++ [x]) (j + 1)) := by
            have h := HS2.out.put x (by rw [← HQ.out]; omega) (by omega)
            rw [← HQ.out, HX2.out] at h
            exact h
          have HL1 : Hid ((K ++ [x]).length = q + 1) := by show _ = _; simp [HQ.out]
          clear hb2 kb hc1 hc2 cu HS2
          go_wp2
          go_roundw
          case rel => exact ⟨j + 1, by omega, by go_num, by rw [HKS.out, HL1.out]; omega, by rw [HKS.out, HL1.out]; go_num, by rw [HKS.out]; exact HS3⟩
          case measure => simp [intOf]; omega
      · obtain rfl : j = n := by omega
        have HKE : Hid (keepT t (L.take j) = keepT t L) := by show _ = _; rw [List.take_of_length_le (by have := HN.out; omega)]
        rw [HKE.out] at hkj HS ⊢
        have hdn := HS.out.done (base := base) hkj hnc HCM.out hbg
        obtain ⟨cu, hc1, hc2⟩ := HS.out.blk
        have hcl := fun ty => clear_pol wr ty g ((keepT t L).length * 2) (cap - (keepT t L).length) (j - (keepT t L).length) (by omega) (fun k hk => by simp [World.cell?, hc1]; omega) (fun k hk => by simp [World.frozen?, hc1])
        obtain ⟨q, hq⟩ : ∃ q, q = (keepT t L).length := ⟨_, rfl⟩
        rw [← hq] at hkj hdn hcl ⊢
        have HDN : Hid ((wr.setCells g (q * 2) (zerosP (j - q))).ownsRow base 51 2 (.slice (some ⟨g, 0, none⟩) q cap) q (polC (keepT t L)) ∧ w.grownBy (wr.setCells g (q * 2) (zerosP (j - q))) (some g)) := hdn
        have HQE : Hid (q = (keepT t L).length) := hq
        have hle : q ≤ j := by omega
        have hlc : q ≤ cap := by omega
        have hne : ¬ cap = q := by omega
        clear hdn hc1 hc2 cu hq HS HKE
        go_wp2
        go_ret
        rw [← HQE.out]
        exact ⟨rfl, HDN.out.1, HDN.out.2⟩
end Go.Proofs.Ytjidnkecjkngnaa
