/- Contracts of the document's own LongLabel and LabelText. -/
import Derived.Test.YtjidnkecjkngnaaLabP
namespace Go.Proofs.Ytjidnkecjkngnaa
open Go.RowKit

def longL (x : List Pol) : Bool := decide (200 < x.length) || x.any longB
theorem longL_iff (x : List Pol) : longL x = true ↔ (200 < x.length ∨ x.any longB = true) := by simp [longL]
theorem longL_hit {x : List Pol} {k : Nat} (hk : k < x.length) (h : longB x[k] = true) : longL x = true := by
  rw [longL_iff]; exact .inr (List.any_eq_true.2 ⟨_, List.getElem_mem hk, h⟩)
theorem longB_many {o : ByteArray} {rs : List ByteArray} (h : 6 < rs.length) : longB (o, rs) = true := by simp [longB, h]
theorem longB_own {o : ByteArray} {rs : List ByteArray} (h : 12 < o.size) : longB (o, rs) = true := by simp [longB, h]
theorem longB_rd {o : ByteArray} {rs : List ByteArray} {j : Nat} (hj : j < rs.length) (h : 12 < rs[j].size) : longB (o, rs) = true := by
  have : (rs.any fun r => decide (12 < r.size)) = true := List.any_eq_true.2 ⟨_, List.getElem_mem hj, by simpa using h⟩
  simp [longB, this]
theorem longB_no {o : ByteArray} {rs : List ByteArray} (h1 : ¬ 6 < rs.length) (h2 : ¬ 12 < o.size) (h3 : ∀ r ∈ rs, (decide (12 < r.size)) = false) : longB (o, rs) = false := by
  have : (rs.any fun r => decide (12 < r.size)) = false := List.any_eq_false.2 fun r hr => by simp [h3 r hr]
  simp [longB, this]; omega

set_option maxRecDepth 100000 in
set_option maxHeartbeats 2000000 in
theorem longR (lo : Option Addr) (lb loff ln lc : Nat) (x : List Pol) (w : World) (hx : LabP w lo lb loff ln lc x) :
    Calls Try.prog 10 #[.slice lo ln lc] w fun e w' => e = .returned (.bool (longL x)) ∧ Below w.heap.size w w' := by
  have HX : Hid (LabP w lo lb loff ln lc x) := hx
  have hlm := hx.mn
  unfold maxLen at hlm
  clear hx
  by_cases h200 : 200 < ln
  · have HE : Hid (longL x = true) := by show _ = _; rw [longL_iff]; exact .inl (by have := HX.out.ln; omega)
    rw [HE.out]
    have i2 : decide ((200 : Int) < (ln : Int)) = true := by simp; omega
    go_enter Try.func10, Try.ntmps10
    go_wp2
    go_ret
    exact ⟨rfl, Below.refl _ _⟩
  · have i2 : decide ((200 : Int) < (ln : Int)) = false := by simp; omega
    go_enter Try.func10, Try.ntmps10
    go_wp2
    go_loopw [12] (fun i wr => ∃ k : Nat, k ≤ ln ∧ i = .int .i64 k ∧ Hid (∀ p ∈ x.take k, longB p = false) ∧ Hid (Below w.heap.size w wr)) (fun i _ => ln - (intOf i).toNat)
    case atStart => exact ⟨0, Nat.zero_le _, rfl, by show ∀ p ∈ _, _; simp, Below.refl _ _⟩
    case round =>
      obtain ⟨k, hk, rfl, HA, HB⟩ := hrel
      by_cases hlt : k < ln
      · have hl0 := HX.out.ln
        have hkl : k < x.length := by omega
        have hX := HX.out.pols.later HB.out
        have hao := hX.adr (by omega)
        have f0 := hX.c0 k hkl
        obtain ⟨v, f1, hv⟩ := hX.c1 k hkl
        obtain ⟨p, hp⟩ : ∃ p, p = x[k] := ⟨_, rfl⟩
        rw [← hp] at f0 hv
        obtain ⟨o, rs⟩ := p
        simp only at f0 hv
        have HP : Hid ((o, rs) = x[k]) := hp
        obtain ⟨ro, rb, roff, rc, hv1, hv2, hv3, hv4⟩ := hv
        subst hv1
        have hby : Below wr.heap.size wr (wr.alloc (.cells #[.string o, .slice ro rs.length rc] 51)) := (Below.refl _ _).alloc (Nat.le_refl _) _
        have HBN : Hid (Below w.heap.size w (wr.alloc (.cells #[.string o, .slice ro rs.length rc] 51))) := HB.out.trans (hby.mono HB.out.size)
        have HST : Hid (Strs (wr.alloc (.cells #[.string o, .slice ro rs.length rc] 51)) ro rb roff rs) := hv4.later hby
        obtain ⟨rn, hrn⟩ : ∃ rn, rn = rs.length := ⟨_, rfl⟩
        rw [← hrn] at f1 HBN HST hv2
        have HRN : Hid (rn = rs.length) := hrn
        unfold maxLen at hv3
        clear hl0 hX hp hv4 hby hrn
        subst hao
        by_cases h6 : 6 < rn
        · have HE : Hid (longL x = true) := longL_hit hkl (by rw [← HP.out]; exact longB_many (by have := HRN.out; omega))
          have i6 : decide ((6 : Int) < (rn : Int)) = true := by simp; omega
          go_wp2
          go_ret
          refine ⟨?_, HBN.out⟩
          rw [HE.out]; rfl
        · have i6 : decide ((6 : Int) < (rn : Int)) = false := by simp; omega
          by_cases h12 : 12 < o.size
          · have HE : Hid (longL x = true) := longL_hit hkl (by rw [← HP.out]; exact longB_own h12)
            have i12 : decide ((12 : Int) < (o.size : Int)) = true := by simp; omega
            go_wp2
            go_ret
            refine ⟨?_, HBN.out⟩
            rw [HE.out]; rfl
          · have i12 : decide ((12 : Int) < (o.size : Int)) = false := by simp; omega
            obtain ⟨wy, hwy⟩ : ∃ wy, wy = wr.alloc (.cells #[.string o, .slice ro rn rc] 51) := ⟨_, rfl⟩
            rw [← hwy] at HBN HST
            have HWY : Hid (wy = wr.alloc (.cells #[.string o, .slice ro rn rc] 51)) := hwy
            clear hwy
            go_wp2
            rw [← HWY.out]
            clear HWY
            obtain ⟨wq, hwq⟩ : ∃ wq, wq = wr := ⟨wr, rfl⟩
            subst hwq
            go_loopw [29] (fun i wx => ∃ j : Nat, j ≤ rn ∧ i = .int .i64 j ∧ Hid (∀ r ∈ rs.take j, (decide (12 < r.size)) = false) ∧ wx = wy) (fun i _ => rn - (intOf i).toNat)
            case atStart => exact ⟨0, Nat.zero_le _, rfl, by show ∀ r ∈ _, _; simp, rfl⟩
            case round =>
              obtain ⟨j, hj, rfl, HR, hw⟩ := hrel
              subst hw
              by_cases hlt2 : j < rn
              · have hjl : j < rs.length := by have := HRN.out; omega
                have hro := HST.out.adr (by omega)
                have g0 := HST.out.cell j hjl
                obtain ⟨r, hr⟩ : ∃ r, r = rs[j] := ⟨_, rfl⟩
                rw [← hr] at g0
                have HRR : Hid (r = rs[j]) := hr
                clear hr
                subst hro
                by_cases hr12 : 12 < r.size
                · have HE : Hid (longL x = true) := longL_hit hkl (by rw [← HP.out]; exact longB_rd hjl (by rw [← HRR.out]; exact hr12))
                  have i13 : decide ((12 : Int) < (r.size : Int)) = true := by simp; omega
                  go_wp2
                  go_ret
                  refine ⟨?_, HBN.out⟩
                  rw [HE.out]; rfl
                · have i13 : decide ((12 : Int) < (r.size : Int)) = false := by simp; omega
                  have HS : Hid (∀ r ∈ rs.take (j + 1), (decide (12 < r.size)) = false) := none_step (t := fun r : ByteArray => decide (12 < r.size)) hjl HR.out (by rw [← HRR.out]; simpa using hr12)
                  go_wp2
                  go_roundw
                  case rel => exact ⟨j + 1, by omega, by go_num, HS, trivial⟩
                  case measure => simp [intOf]; omega
              · have HS : Hid (∀ p ∈ x.take (k + 1), longB p = false) := none_step hkl HA.out (by
                  rw [← HP.out]
                  refine longB_no (by have := HRN.out; omega) h12 ?_
                  have h := HR.out
                  rwa [List.take_of_length_le (by have := HRN.out; omega)] at h)
                go_wp2
                go_roundw
                case rel => exact ⟨k + 1, by omega, by go_num, HS, HBN⟩
                case measure => simp [intOf]; omega
      · have HE : Hid (longL x = false) := by
          have h := HA.out
          rw [List.take_of_length_le (by have := HX.out.ln; omega)] at h
          show _ = _
          rw [Bool.eq_false_iff]
          intro he
          rcases (longL_iff x).1 he with h1 | h1
          · have := HX.out.ln; omega
          · obtain ⟨p, hp, h2⟩ := List.any_eq_true.1 h1
            rw [h p hp] at h2; cases h2
        go_wp2
        go_ret
        refine ⟨?_, HB.out⟩
        rw [HE.out]; rfl

theorem app_list (a b : ByteArray) : (a ++ b).data.toList = a.data.toList ++ b.data.toList := by
  rw [ByteArray.data_append, Array.toList_append]
theorem list_size {a : ByteArray} {l : List UInt8} (h : a.data.toList = l) : a.size = l.length := by
  rw [← h, Array.length_toList]; rfl
theorem joinT_first {rs : List ByteArray} {j : Nat} (hj : j < rs.length) (h0 : j = 0) : Lib.join ((rs.take (j + 1)).map (·.data.toList)) [44] = Lib.join ((rs.take j).map (·.data.toList)) [44] ++ rs[j].data.toList := by
  subst h0
  rw [List.take_succ_eq_append_getElem hj]
  simp [Lib.join_one, Lib.join_nil]
theorem joinT_next {rs : List ByteArray} {j : Nat} (hj : j < rs.length) (h0 : 0 < j) : Lib.join ((rs.take (j + 1)).map (·.data.toList)) [44] = Lib.join ((rs.take j).map (·.data.toList)) [44] ++ (44 :: rs[j].data.toList) := by
  rw [List.take_succ_eq_append_getElem hj, List.map_append, List.map_singleton, join_snoc, if_neg]
  · simp
  · intro e
    have := congrArg List.length e
    rw [List.length_map, List.length_take, List.length_nil] at this
    omega

set_option maxRecDepth 100000 in
set_option maxHeartbeats 4000000 in
theorem textR (lo : Option Addr) (lb loff ln lc : Nat) (x : List Pol) (w : World) (hx : LabP w lo lb loff ln lc x) (hn : longL x = false) :
    Calls Try.prog 11 #[.slice lo ln lc] w fun e w' => e = .returned (.string ⟨(labelT x).toArray⟩) ∧ Below w.heap.size w w' := by
  have HX : Hid (LabP w lo lb loff ln lc x) := hx
  have hsh : ¬ 200 < x.length ∧ ∀ p ∈ x, longB p = false := by
    constructor
    · intro h; rw [(longL_iff x).2 (.inl h)] at hn; cases hn
    · intro p hp
      cases h : longB p with
      | false => rfl
      | true => rw [(longL_iff x).2 (.inr (List.any_eq_true.2 ⟨p, hp, h⟩))] at hn; cases hn
  have hlm : ln ≤ 200 := by have := hx.ln; omega
  have HSH : Hid (∀ p ∈ x, longB p = false) := hsh.2
  obtain ⟨PT, hPT⟩ : ∃ PT, PT = labelT x := ⟨_, rfl⟩
  rw [← hPT]
  have HPT : Hid (PT = labelT x) := hPT
  clear hx hn hsh hPT
  go_enter Try.func11, Try.ntmps11
  go_wp2
  go_loopw [3, 10] (fun s i wr => ∃ k : Nat, k ≤ ln ∧ i = .int .i64 k ∧ (∃ S : ByteArray, s = .string S ∧ Hid (S.data.toList = bodyT (x.take k))) ∧ Hid (Below w.heap.size w wr)) (fun _ i _ => ln - (intOf i).toNat)
  case atStart => exact ⟨0, Nat.zero_le _, rfl, ⟨_, rfl, rfl⟩, Below.refl _ _⟩
  case round =>
    obtain ⟨k, hk, rfl, ⟨S, rfl, HS⟩, HB⟩ := hrel
    have hbl : (bodyT (x.take k)).length ≤ 200 * 92 := by
      have h1 := bodyT_len (x := x.take k) (fun p hp => HSH.out p (List.mem_of_mem_take hp))
      have h2 : (x.take k).length ≤ 200 := by rw [List.length_take]; have := HX.out.ln; omega
      exact Nat.le_trans h1 (Nat.mul_le_mul_right _ h2)
    have hSz : S.size ≤ 18400 := by rw [list_size HS.out]; omega
    clear hbl
    by_cases hlt : k < ln
    · have hl0 := HX.out.ln
      have hkl : k < x.length := by omega
      have hX := HX.out.pols.later HB.out
      have hao := hX.adr (by omega)
      have f0 := hX.c0 k hkl
      obtain ⟨v, f1, hv⟩ := hX.c1 k hkl
      have hsh := HSH.out _ (List.getElem_mem hkl)
      have hn0 := fun h => bodyT_first (x := x) hkl h
      have hn1 := fun h => bodyT_next (x := x) hkl h
      obtain ⟨p, hp⟩ : ∃ p, p = x[k] := ⟨_, rfl⟩
      rw [← hp] at f0 hv hsh hn0 hn1
      obtain ⟨o, rs⟩ := p
      simp only at f0 hv
      obtain ⟨h6, h12, hr12⟩ := short_of hsh
      simp only at h6 h12 hr12
      obtain ⟨ro, rb, roff, rc, hv1, hv2, hv3, hv4⟩ := hv
      subst hv1
      have hby : Below wr.heap.size wr (wr.alloc (.cells #[.string o, .slice ro rs.length rc] 51)) := (Below.refl _ _).alloc (Nat.le_refl _) _
      have HBN : Hid (Below w.heap.size w (wr.alloc (.cells #[.string o, .slice ro rs.length rc] 51))) := HB.out.trans (hby.mono HB.out.size)
      have HST : Hid (Strs (wr.alloc (.cells #[.string o, .slice ro rs.length rc] 51)) ro rb roff rs) := hv4.later hby
      obtain ⟨rn, hrn⟩ : ∃ rn, rn = rs.length := ⟨_, rfl⟩
      rw [← hrn] at f1 HBN HST hv2 h6
      have HRN : Hid (rn = rs.length) := hrn
      have HR12 : Hid (∀ r ∈ rs, r.size ≤ 12) := hr12
      -- the text ahead of the readers
      obtain ⟨A, hA⟩ : ∃ A : List UInt8, A = (if k = 0 then S.data.toList else S.data.toList ++ [59]) ++ (o.data.toList ++ [58]) := ⟨_, rfl⟩
      have HNX : Hid (bodyT (x.take (k + 1)) = A ++ Lib.join (rs.map (·.data.toList)) [44]) := by
        show _ = _
        rw [hA]
        by_cases h0 : k = 0
        · rw [hn0 h0, if_pos h0, HS.out]; simp [polT]
        · rw [hn1 (by omega), if_neg h0, HS.out]; simp [polT]
      have HA : Hid (A = (if k = 0 then S.data.toList else S.data.toList ++ [59]) ++ (o.data.toList ++ [58])) := hA
      clear hl0 hX hp hv2 hv3 hv4 hby hrn hsh hn0 hn1 hA hr12
      subst hao
      obtain ⟨wy, hwy⟩ : ∃ wy, wy = wr.alloc (.cells #[.string o, .slice ro rn rc] 51) := ⟨_, rfl⟩
      rw [← hwy] at HBN HST
      have HWY : Hid (wy = wr.alloc (.cells #[.string o, .slice ro rn rc] 51)) := hwy
      clear hwy
      obtain ⟨wq, hwq⟩ : ∃ wq, wq = wr := ⟨wr, rfl⟩
      subst hwq
      by_cases h0 : k = 0
      all_goals
        first
          | (have hp0 : ¬ (0 : Int) < (k : Int) := by omega)
          | (have hp0 : (0 : Int) < (k : Int) := by omega)
        have HK0 := HA.out
        first
          | rw [if_pos h0] at HK0
          | rw [if_neg h0] at HK0
        have HA1 : Hid (A = _) := HK0
        clear HA HK0 h0
        go_wp2
        rw [← HWY.out]
        go_loopw [3, 27] (fun s i wx => ∃ j : Nat, j ≤ rn ∧ i = .int .i64 j ∧ (∃ R : ByteArray, s = .string R ∧ Hid (R.data.toList = A ++ Lib.join ((rs.take j).map (·.data.toList)) [44])) ∧ wx = wy) (fun _ i _ => rn - (intOf i).toNat)
        case atStart =>
          refine ⟨0, Nat.zero_le _, rfl, ⟨_, rfl, ?_⟩, rfl⟩
          show _ = _
          rw [HA1.out]
          simp [Lib.join_nil]
        case round =>
          obtain ⟨j, hj, rfl, ⟨R, rfl, HR⟩, hw⟩ := hrel
          subst hw
          have hRz : R.size ≤ 20000 := by
            rw [list_size HR.out, HA1.out]
            have h1 := readers_len (rs := rs.take j) (by rw [List.length_take]; have := HRN.out; omega) (fun r hr => HR12.out r (List.mem_of_mem_take hr))
            have h2 : S.data.toList.length = S.size := by rw [Array.length_toList]; rfl
            have h3 : o.data.toList.length = o.size := by rw [Array.length_toList]; rfl
            simp only [List.length_append, List.length_cons, List.length_nil, h2, h3]
            omega
          by_cases hlt2 : j < rn
          · have hjl : j < rs.length := by have := HRN.out; omega
            have hro := HST.out.adr (by omega)
            have g0 := HST.out.cell j hjl
            have hq0 := fun h => joinT_first hjl h
            have hq1 := fun h => joinT_next hjl h
            have hr12 := HR12.out _ (List.getElem_mem hjl)
            obtain ⟨r, hr⟩ : ∃ r, r = rs[j] := ⟨_, rfl⟩
            rw [← hr] at g0 hq0 hq1 hr12
            clear hr
            subst hro
            by_cases j0 : j = 0
            · have hp1 : ¬ (0 : Int) < (j : Int) := by omega
              have HJ : Hid ((R ++ r).data.toList = A ++ Lib.join ((rs.take (j + 1)).map (·.data.toList)) [44]) := by
                show _ = _
                rw [app_list, HR.out, hq0 j0]; simp
              clear hq0 hq1 j0
              go_wp2
              go_roundw
              case rel => exact ⟨j + 1, by omega, by go_num, ⟨_, rfl, HJ⟩, trivial⟩
              case measure => simp [intOf]; omega
            · have hp1 : (0 : Int) < (j : Int) := by omega
              have HJ : Hid ((R ++ ⟨#[44]⟩ ++ r).data.toList = A ++ Lib.join ((rs.take (j + 1)).map (·.data.toList)) [44]) := by
                show _ = _
                rw [app_list, app_list, HR.out, hq1 (by omega)]; simp
              clear hq0 hq1 j0
              go_wp2
              go_roundw
              case rel => exact ⟨j + 1, by omega, by go_num, ⟨_, rfl, HJ⟩, trivial⟩
              case measure => simp [intOf]; omega
          · have HJ : Hid (R.data.toList = bodyT (x.take (k + 1))) := by
              show _ = _
              rw [HR.out, HNX.out, List.take_of_length_le (by have := HRN.out; omega)]
            go_wp2
            go_roundw
            case rel => exact ⟨k + 1, by omega, by go_num, ⟨_, rfl, HJ⟩, HBN⟩
            case measure => simp [intOf]; omega
    · have HE : Hid ((⟨#[123]⟩ : ByteArray) ++ S ++ ⟨#[125]⟩ = ⟨PT.toArray⟩) := by
        show _ = _
        apply ByteArray.ext
        apply Array.ext'
        rw [app_list, app_list, HS.out, HPT.out, List.take_of_length_le (by have := HX.out.ln; omega)]
        simp [labelT]
      go_wp2
      go_ret
      refine ⟨?_, HB.out⟩
      rw [← HE.out]; rfl
end Go.Proofs.Ytjidnkecjkngnaa
