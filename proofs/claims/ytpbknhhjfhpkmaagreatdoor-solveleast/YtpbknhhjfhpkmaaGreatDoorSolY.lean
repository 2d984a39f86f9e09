/- Contracts of the library's iterators over numbers: Values, AppendSeq, Collect, Sorted; Compact behind it. -/
import Derived.Test.YtpbknhhjfhpkmaaGreatDoorSolQ
import Derived.Test.YtpbknhhjfhpkmaaGreatDoorGaRd
import Derived.Test.YtpbknhhjfhpkmaaGreatDoorGaInt
import Derived.Test.YtpbknhhjfhpkmaaGreatDoorGaShelf
import Derived.RangeFuncBox
import Derived.RangeFuncWrites
import Derived.Maps.AppendAt
import Derived.Sort.OwnSortedInts
import Derived.Lib.SlicesCompact
namespace Go.Proofs.YtpbknhhjfhpkmaaGreatDoor
open Go.RowKit Go.Shelf

attribute [local go_sem] Oper.semAt_some

set_option maxHeartbeats 1000000 in
theorem valuesIn (n : Nat) (a : Option Addr) (len cap : Nat) (w : World) :
    CallsIn Fence.wide n Tryz.prog 53 #[.slice a len cap] w fun e w' => e = .returned (.func (.func 89) #[] #[.pointer (some ⟨w.heap.size, 0, none⟩)]) ∧ w' = w.alloc (.cells #[.slice a len cap] 40) := by
  refine callsIn_of_wp Tryz.func53 rfl trivial ?_ rfl
  simp only [Tryz.ntmps53, List.size_toArray, List.length_cons, List.length_nil, Nat.reduceAdd, Nat.reduceSub, Array.replicate_succ, Array.replicate_zero, List.push_toArray, List.append_toArray, List.nil_append, List.cons_append]
  gi_wp2
  go_ret
  exact ⟨rfl, rfl⟩

set_option maxRecDepth 100000 in
set_option maxHeartbeats 2000000 in
theorem values1_in (n l Bs n₀ : Nat) (hn : 1 ≤ n) (so : Option Addr) (sb soff sc : Nat) (zs : List Int) (hz : zs.length ≤ 1000) (J Jx : List Int → World → Prop)
    (hY : ∀ pre x W, J pre W → pre.length < zs.length → YieldAt Fence.wide (n - 1) Tryz.prog l #[.int .i64 x] W fun e W' =>
      (e = .returned (.bool true) ∧ J (pre ++ [x]) W' ∧ Below n₀ W W') ∨ (e = .returned (.bool false) ∧ Jx (pre ++ [x]) W'))
    (W : World) (hBs : W.cell? ⟨Bs, 0, none⟩ = some (.slice so zs.length sc)) (hc : Ints W so sb soff zs) (hlo : 0 < zs.length → sb < n₀) (h0 : J [] W) :
    CallsIn Fence.wide n Tryz.prog 89 #[.func (.yield l) #[] #[], .pointer (some ⟨Bs, 0, none⟩)] W fun e W' => (∃ v, e = .returned v) ∧
      ((∃ ys, ys = zs ∧ J ys W') ∨ (∃ pre, pre <+: zs ∧ Jx pre W')) := by
  obtain ⟨len, hlen⟩ : ∃ len, len = zs.length := ⟨_, rfl⟩
  rw [← hlen] at hBs hz
  have HL : Hid (len = zs.length) := hlen
  have HC : Hid (Ints W so sb soff zs) := hc
  have HLO : Hid (0 < zs.length → sb < n₀) := hlo
  have HY : Hid (∀ pre x W, J pre W → pre.length < zs.length → YieldAt Fence.wide (n - 1) Tryz.prog l #[.int .i64 x] W fun e W' =>
      (e = .returned (.bool true) ∧ J (pre ++ [x]) W' ∧ Below n₀ W W') ∨ (e = .returned (.bool false) ∧ Jx (pre ++ [x]) W')) := hY
  clear hc hlo hY hlen
  refine callsIn_of_wp Tryz.func89 rfl trivial ?_ rfl
  simp only [Tryz.ntmps89, List.size_toArray, List.length_cons, List.length_nil, Nat.reduceAdd, Nat.reduceSub, Array.replicate_succ, Array.replicate_zero, List.push_toArray, List.append_toArray, List.nil_append, List.cons_append]
  gi_wp2
  gi_loopw [7] (fun i wr => ∃ k : Nat, k ≤ len ∧ i = .int .i64 k ∧ J (zs.take k) wr ∧ Hid (Below n₀ W wr)) (fun i _ => len - (intOf i).toNat)
  case atStart => exact ⟨0, Nat.zero_le _, rfl, h0, Below.refl _ _⟩
  case round =>
    clear h0 hBs
    obtain ⟨k, hk, rfl, hJs, HB⟩ := hrel
    by_cases hlt : k < len
    · have hkz : k < zs.length := by have := HL.out; omega
      have hso := HC.out.adr (by omega)
      have f0 : wr.cell? ⟨sb, soff + k, none⟩ = some (.int .i64 zs[k]) := (HB.out.cell (p := ⟨sb, soff + k, none⟩) (HLO.out (by omega))).trans (HC.out.cell k hkz)
      obtain ⟨fn, tmps, assign, body, hy, hR⟩ := HY.out (zs.take k) zs[k] wr hJs (by rw [List.length_take]; omega)
      have hst := List.take_succ_eq_append_getElem hkz
      have HPF : Hid (zs.take k ++ [zs[k]] <+: zs) := by show _ <+: _; rw [← hst]; exact List.take_prefix _ _
      have HTK : Hid (zs.take (k + 1) = zs.take k ++ [zs[k]]) := hst
      obtain ⟨x, hx⟩ : ∃ x, x = zs[k] := ⟨_, rfl⟩
      rw [← hx] at f0 hy hR HPF HTK
      clear hx hst
      subst hso
      gi_wp2
      refine hR.mono ?_
      rintro e W3 (⟨rfl, hJ3, hk3⟩ | ⟨rfl, hJx3⟩)
      · gi_wp2
        exact ⟨⟨k + 1, by omega, by go_num, by rw [HTK.out]; exact hJ3, HB.out.trans hk3⟩, by simp [intOf]; omega⟩
      · gi_wp2
        refine bodyPost_ret (results_none rfl _ _ _) rfl ?_
        exact ⟨⟨_, rfl⟩, .inr ⟨_, HPF.out, hJx3⟩⟩
    · have hkl : k = len := by omega
      subst hkl
      have HTT : Hid (zs.take k = zs) := List.take_of_length_le (by have := HL.out; omega)
      gi_wp2
      go_end0
      exact ⟨⟨_, rfl⟩, .inl ⟨_, HTT.out, hJs⟩⟩
theorem values_stops (n Bs n₀ : Nat) (hn : 1 ≤ n) (so : Option Addr) (sb soff sc : Nat) (zs : List Int) (hz : zs.length ≤ 1000) (w : World) (hBs : w.cell? ⟨Bs, 0, none⟩ = some (.slice so zs.length sc)) (hc : Ints w so sb soff zs) (hlo : 0 < zs.length → sb < n₀) :
    SeqStopsK Fence.wide n Tryz.prog 89 #[.pointer (some ⟨Bs, 0, none⟩)] (fun x : Int => #[Value.int .i64 x]) (Below n₀) (fun ys => ys = zs) (fun pre => pre <+: zs) zs.length w := fun l J Jx W hW _ _ hY h0 =>
  values1_in n l Bs n₀ hn so sb soff sc zs hz J Jx hY W (cell_below hW hBs) (hc.later hW) hlo h0
theorem Tryz.infoIntD : (Tryz.prog.info? 3).map (fun i => (i.zero, i.size, i.bytes)) = some (some (.int .i64 0), 1, 8) := by kernel_rfl

set_option maxRecDepth 100000 in
set_option maxHeartbeats 4000000 in
theorem appendSeqC (Bs : Nat) (so : Option Addr) (sb soff sc : Nat) (zs : List Int) (hz : zs.length ≤ 1000) (w : World) (hBs : w.cell? ⟨Bs, 0, none⟩ = some (.slice so zs.length sc)) (hc : Ints w so sb soff zs) :
    Calls Tryz.prog 134 #[.slice none 0 0, .func (.func 89) #[] #[.pointer (some ⟨Bs, 0, none⟩)]] w fun e w' => ∃ v, e = .returned v ∧ w'.ownsRow w.heap.size 3 1 v zs.length (zs.map (Value.int .i64)) ∧ Below w.heap.size w w' := by
  obtain ⟨i0, hi, hz0, hz1, hz2⟩ := info_parts Tryz.infoIntD
  have HC : Hid (Ints w so sb soff zs) := hc
  have HBS : Hid (w.cell? ⟨Bs, 0, none⟩ = some (.slice so zs.length sc)) := hBs
  have HZ : Hid (zs.length ≤ 1000) := hz
  clear hc hBs hz
  refine (callsIn_wide (n := 5)).1 ?_
  refine callsIn_of_wp_marks Tryz.func134 rfl trivial ?_ rfl
  simp only [Tryz.ntmps134, List.size_toArray, List.length_cons, List.length_nil, Nat.reduceAdd, Nat.reduceSub, Array.replicate_succ, Array.replicate_zero, List.push_toArray, List.append_toArray, List.nil_append, List.cons_append]
  gi_wp2
  have bO := Boxed.new w 40 (.slice none 0 0)
  have hB0 : Below w.heap.size w (w.alloc (.cells #[.slice none 0 0] 40)) := (Below.refl _ w).alloc (Nat.le_refl _) _
  obtain ⟨w2, hw2⟩ : ∃ w2, w2 = w.alloc (.cells #[.slice none 0 0] 40) := ⟨_, rfl⟩
  rw [← hw2] at bO hB0 ⊢
  have HSQ : Hid (SeqStopsK Fence.wide 4 Tryz.prog 89 #[.pointer (some ⟨Bs, 0, none⟩)] (fun x : Int => #[Value.int .i64 x]) (Below w.heap.size) (fun ys => ys = zs) (fun pre => pre <+: zs) zs.length w2) :=
    values_stops 4 Bs w.heap.size (by omega) so sb soff sc zs HZ.out w2 (cell_below hB0 HBS.out) (HC.out.later hB0) (fun h => HC.out.lt h)
  have HB2 : Hid (Below w.heap.size w w2) := hB0
  have h2s : w.heap.size < w2.heap.size := by rw [hw2]; simp
  clear hw2
  refine wpIn_rangeFunc_ownG rfl (by omega) (gf := 89) (lb := #[.pointer (some ⟨Bs, 0, none⟩)]) rfl trivial (enters_of Tryz.func89 (by kernel_rfl) rfl)
    HSQ.out belowK_t (belowK_b HB2.out.size) (Below.refl _ _) (fun _ => rfl)
    (fun pre W => (∃ v, Boxed W w.heap.size 40 v ∧ W.ownsRow w.heap.size 3 1 v pre.length (pre.map (Value.int .i64)) ∧ True) ∧ Below w.heap.size w W)
    (fun _ _ _ => False)
    (OwnFrom.and (Own.from (holdsRow_own w.heap.size w.heap.size 40 3 1 (fun pre : List Int => pre.length) (fun pre : List Int => pre.map (Value.int .i64)) (fun _ _ => True)) _) (ownFrom_below (Nat.le_refl _) HB2.out.size))
    (fun _ _ _ _ _ hs _ _ => hs)
    ⟨⟨_, bO, World.ownsRow_nil _ _ _ _, trivial⟩, HB2.out⟩
    (fun x => { tmps := #[.slice none 0 0, .func (.func 89) #[] #[.pointer (some ⟨Bs, 0, none⟩)], .pointer (some ⟨w.heap.size, 0, none⟩), undef, .slice none 0 0, .int .i64 x, .func (.func 89) #[] #[.pointer (some ⟨Bs, 0, none⟩)], .int .i64 x, undef, undef, undef, undef, undef], defers := [] }) ?assign ?body ?done ?stop
  case assign =>
    intro l x W K hK
    gi_wp2
    exact hK
  case body =>
    rintro l pre x W ⟨⟨v, hv, hrow, -⟩, hB⟩ hlt
    have hcv := hv.cell
    gi_wp2_with (gi_at_builtin; refine wpListIn_append_own _ rfl _ _ 40 rfl w.heap.size 3 i0 (.int .i64 0) 1 8 Tryz.underlying40 hi hz0 hz1 hz2 rfl (by decide) _ _ _ rfl (hrow.alloc _) ⟨W.heap.size, 0, none⟩ 1 1 [.int .i64 x] rfl rfl (cell_one_new _ _ _) (by simp [Value.oneCell']) (by have := HZ.out; unfold maxLen; omega) (by have := HZ.out; omega) (by have := hB.size; simp; omega) ?_; intro v' w1 hown' hgrow _; obtain ⟨g', cap', rfl⟩ := ownsRow_succ hown'; obtain ⟨hv1, hv2, hr2, hk2, hb2⟩ := hv.appended (by decide) hrow hB.size (Nat.le_refl _) hown' hgrow; have hc1 := hv1.cell; have hf1 := hv1.frozen)
    exact ⟨hk2.from _, hb2, ⟨_, hv2, by rw [List.length_append, List.map_append]; exact hr2, trivial⟩, hB.trans hb2⟩
  case done =>
    rintro D ys W hD rfl ⟨⟨v, hv, hrow, -⟩, hB⟩ hK
    have cv := hv.cell
    obtain ⟨ov, ocap, hov⟩ := slice_of hrow
    subst hov
    gi_wp2
    refine ⟨by simp, .inl ⟨_, _, rfl, run_takeDeferred hK, ?_⟩⟩
    refine ⟨_, results_tmp rfl _ _ _, _, rfl, ownsRow_putObj hrow _ hK rfl, hB.trans (belowK_b (w := w) (Nat.le_refl _) W D _ _ (by have := HB2.out.size; omega) hK rfl rfl)⟩
  case stop =>
    rintro D c pre W _ _ h _
    exact h.elim

set_option maxRecDepth 100000 in
set_option maxHeartbeats 2000000 in
theorem collectC (Bs : Nat) (so : Option Addr) (sb soff sc : Nat) (zs : List Int) (hz : zs.length ≤ 1000) (w : World) (hBs : w.cell? ⟨Bs, 0, none⟩ = some (.slice so zs.length sc)) (hc : Ints w so sb soff zs) :
    Calls Tryz.prog 87 #[.func (.func 89) #[] #[.pointer (some ⟨Bs, 0, none⟩)]] w fun e w' => ∃ v, e = .returned v ∧ w'.ownsRow w.heap.size 3 1 v zs.length (zs.map (Value.int .i64)) ∧ Below w.heap.size w w' := by
  have hcall := appendSeqC Bs so sb soff sc zs hz w hBs hc
  clear hz hBs hc
  go_enter Tryz.func87, Tryz.ntmps87
  go_wp2_with fail
  refine hcall.mono ?_
  rintro e w1 ⟨v, rfl, h1, h2⟩
  have H1 : Hid (w1.ownsRow w.heap.size 3 1 v zs.length (zs.map (Value.int .i64)) ∧ Below w.heap.size w w1) := ⟨h1, h2⟩
  clear h1 h2 hcall
  go_wp2
  go_ret
  exact ⟨_, rfl, H1.out⟩

/- A row of the call's own, sorted. -/
theorem sortI (v : Value) (zs : List Int) (B : Nat) (w : World) (hz : zs.length ≤ 1000) (h : w.ownsRow B 3 1 v zs.length (zs.map (Value.int .i64))) :
    Calls Tryz.prog 88 #[v] w fun e w' => e = .returned (.tuple #[]) ∧ ∃ ys : List Int, ys.Perm zs ∧ w'.ownsRow B 3 1 v zs.length (ys.map (Value.int .i64)) ∧ w.grownBy w' v.ownBlock := by
  rcases h.2 with ⟨hv, h0⟩ | ⟨g, cap, cur, hv, hg, hh, hc1, hc2, hsz, htk⟩
  · have hnil : zs = [] := List.length_eq_zero_iff.1 h0
    subst hv hnil
    refine (Tryz.slices_Sort_int_none none 0 w).mono ?_
    rintro e w' ⟨rfl, rfl⟩
    exact ⟨rfl, [], List.Perm.refl _, h, ⟨rfl, rfl, rfl, Nat.le_refl _, fun _ _ _ => rfl⟩⟩
  · subst hv
    rw [Nat.mul_one] at htk
    refine (Tryz.slices_Sort_int g 0 cap zs w (holds_of_blockI hh htk) (lt_of_block hh) (by omega)).mono ?_
    rintro e w' ⟨rfl, m, os, rfl⟩
    refine ⟨rfl, zs.mergeSort (fun x y => decide (x ≤ y)), List.mergeSort_perm _ _, ownsRow_sortedI (List.length_mergeSort _) hg hh hc1 hc2 hsz, grownBy_sortedI _⟩

set_option maxRecDepth 100000 in
set_option maxHeartbeats 2000000 in
theorem sortedC (Bs : Nat) (so : Option Addr) (sb soff sc : Nat) (zs : List Int) (hz : zs.length ≤ 1000) (w : World) (hBs : w.cell? ⟨Bs, 0, none⟩ = some (.slice so zs.length sc)) (hc : Ints w so sb soff zs) :
    Calls Tryz.prog 52 #[.func (.func 89) #[] #[.pointer (some ⟨Bs, 0, none⟩)]] w fun e w' => ∃ (v : Value) (ys : List Int), e = .returned v ∧ ys.Perm zs ∧ w'.ownsRow w.heap.size 3 1 v ys.length (ys.map (Value.int .i64)) ∧ Below w.heap.size w w' := by
  have hcall := collectC Bs so sb soff sc zs hz w hBs hc
  have HZ : Hid (zs.length ≤ 1000) := hz
  clear hz hBs hc
  go_enter Tryz.func52, Tryz.ntmps52
  go_wp2_with fail
  refine hcall.mono ?_
  rintro e w1 ⟨v, rfl, h1, h2⟩
  have hsort := sortI v zs w.heap.size w1 HZ.out h1
  have HLO : Hid (∀ k, v.ownBlock = some k → w.heap.size ≤ k) := fun k e => (h1.lt _ e).1
  have HB1 : Hid (Below w.heap.size w w1) := h2
  obtain ⟨ov, ocap, hov⟩ := slice_of h1
  subst hov
  clear h1 h2 hcall
  go_wp2_with fail
  refine hsort.mono ?_
  rintro e w2 ⟨rfl, ys, hp, ho, hg⟩
  have HE : Hid (ys.Perm zs ∧ w2.ownsRow w.heap.size 3 1 (.slice ov zs.length ocap) ys.length (ys.map (Value.int .i64)) ∧ Below w.heap.size w w2) := ⟨hp, by rw [hp.length_eq]; exact ho, HB1.out.grown hg HB1.out.size (fun k e => HLO.out k e)⟩
  clear hp ho hg hsort
  go_wp2
  go_ret
  exact ⟨_, ys, rfl, HE.out⟩
theorem compact_memI {zs : List Int} {x : Int} : x ∈ Lib.compact zs ↔ x ∈ zs := by
  unfold Lib.compact Lib.compactUpTo
  rw [List.mem_map]
  constructor
  · rintro ⟨j, hj, rfl⟩
    have h := (List.mem_filter.1 hj).1
    rw [List.mem_range] at h
    simp [h]
  · intro hx
    obtain ⟨j, hj, rfl⟩ := List.mem_iff_getElem.1 hx
    clear hx
    induction j with
    | zero => exact ⟨0, List.mem_filter.2 ⟨List.mem_range.2 hj, by simp [Lib.keeps]⟩, by simp [hj]⟩
    | succ j ih =>
      by_cases hk : Lib.keeps zs.toArray (j + 1) = true
      · exact ⟨j + 1, List.mem_filter.2 ⟨List.mem_range.2 hj, hk⟩, by simp [hj]⟩
      · have he : zs[j + 1] = zs[j] := by
          have hj' : j < zs.length := by omega
          have := hk
          simp [Lib.keeps, hj, hj'] at this
          exact this
        rw [he]
        exact ih (by omega)
theorem compact_lenI (zs : List Int) : (Lib.compact zs).length ≤ zs.length := by
  unfold Lib.compact Lib.compactUpTo
  rw [List.length_map]
  have := List.length_filter_le (Lib.keeps zs.toArray) (List.range zs.length)
  simpa using this
/- Compact of a row of the call's own. -/
theorem compactI (v : Value) (zs : List Int) (B : Nat) (w : World) (hz : zs.length ≤ 1000) (h : w.ownsRow B 3 1 v zs.length (zs.map (Value.int .i64))) :
    Calls Tryz.prog 51 #[v] w fun e w' => ∃ (so : Option Addr) (sb sc : Nat), e = .returned (.slice so (Lib.compact zs).length sc) ∧ Ints w' so sb 0 (Lib.compact zs) ∧ (0 < (Lib.compact zs).length → B ≤ sb) ∧ w.grownBy w' v.ownBlock := by
  rcases h.2 with ⟨hv, h0⟩ | ⟨g, cap, cur, hv, hg, hh, hc1, hc2, hsz, htk⟩
  · have hnil : zs = [] := List.length_eq_zero_iff.1 h0
    subst hv hnil
    refine (Tryz.slices_Compact_int_empty none 0 w).mono ?_
    rintro e w' ⟨rfl, rfl⟩
    exact ⟨none, 0, 0, rfl, ⟨fun h => by simp [Lib.compact, Lib.compactUpTo] at h, fun k h => by simp [Lib.compact, Lib.compactUpTo] at h, fun h => by simp [Lib.compact, Lib.compactUpTo] at h⟩, fun h => by simp [Lib.compact, Lib.compactUpTo] at h, ⟨rfl, rfl, rfl, Nat.le_refl _, fun _ _ _ => rfl⟩⟩
  · subst hv
    rw [Nat.mul_one] at htk
    have hH := holds_of_blockI hh htk
    refine (Tryz.slices_Compact_int g 0 cap zs w hH (by omega) hc1).mono ?_
    rintro e w' ⟨rfl, q, rfl⟩
    have hcl := compact_lenI zs
    have hH2 := Sort.holds_putRow (Value.int .i64) (Sort.ahead w q) g 0 zs.toArray (Lib.compact zs ++ List.replicate (zs.length - (Lib.compact zs).length) 0).toArray hH (by simp; omega)
    refine ⟨some ⟨g, 0, none⟩, g, cap, rfl, ⟨fun _ => rfl, fun k hk => ?_, fun _ => ?_⟩, fun _ => hg, ?_⟩
    · have h2 := (hH2 k (by simp; omega)).1
      rw [h2]
      have hk2 : k < (Lib.compact zs ++ List.replicate (zs.length - (Lib.compact zs).length) (0 : Int)).length := by simp; omega
      congr 2
      simp only [List.getElem!_toArray]
      rw [getElem!_pos _ k hk2, List.getElem_append_left hk]
    · simpa [Sort.ahead] using lt_of_block hh
    · exact grownBy_sortedI (os := #[]) _
end Go.Proofs.YtpbknhhjfhpkmaaGreatDoor
