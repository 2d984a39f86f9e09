/- Contracts of the document's own ReadersOf and CheckLabel, and of the law's badLabels. -/
import Derived.Test.YtfhpmnghakhlkaaDoorRefM
import Derived.Test.YtfhpmnghakhlkaaDoorLabK
import Derived.Test.YtfhpmnghakhlkaaDoorCheckR
namespace Go.Proofs.YtfhpmnghakhlkaaDoor
open Go.RowKit

theorem SeenSt.later {w wr w1 : World} {v : Value} {l : List ByteArray} (h : SeenSt w wr v l) (hb : Below wr.heap.size wr w1) : SeenSt w w1 v l := ⟨h.bel.trans (hb.mono h.bel.size), own_below h.own hb⟩
def cntL (ls : List ByteArray) (ps : List (ByteArray × ByteArray)) (x : List Pol) (c : ByteArray) (j : Nat) : Nat := ((x.take j).filter fun p => Lab.letsB ls ps p c).length
theorem cntL_le (ls : List ByteArray) (ps : List (ByteArray × ByteArray)) (x : List Pol) (c : ByteArray) (j : Nat) : cntL ls ps x c j ≤ j := by
  unfold cntL
  have h1 := List.length_filter_le (fun p => Lab.letsB ls ps p c) (x.take j)
  have h2 := List.length_take_le j x
  omega
theorem cntL_step {ls : List ByteArray} {ps : List (ByteArray × ByteArray)} {x : List Pol} {c : ByteArray} {j : Nat} (hj : j < x.length) : cntL ls ps x c (j + 1) = cntL ls ps x c j + (if Lab.letsB ls ps x[j] c = true then 1 else 0) := by
  unfold cntL
  rw [List.take_succ_eq_append_getElem hj, List.filter_append, List.length_append]
  cases h : Lab.letsB ls ps x[j] c <;> simp [h]
theorem cntL_all {ls : List ByteArray} {ps : List (ByteArray × ByteArray)} {x : List Pol} {c : ByteArray} {j : Nat} (hj : x.length ≤ j) : decide (cntL ls ps x c j = x.length) = Lab.readsB ls ps x c := by
  unfold cntL
  rw [List.take_of_length_le hj, Bool.eq_iff_iff, decide_eq_true_eq, List.length_filter_eq_length_iff]
  simp [Lab.readsB]

theorem reads_stepR {ls : List ByteArray} {ps : List (ByteArray × ByteArray)} {x : List Pol} {k : Nat} (hk : k < ls.length) : (ls.take (k + 1)).filter (fun c => Lab.readsB ls ps x c) = (ls.take k).filter (fun c => Lab.readsB ls ps x c) ++ (if Lab.readsB ls ps x ls[k] = true then [ls[k]] else []) := by
  rw [List.take_succ_eq_append_getElem hk, List.filter_append]
  congr 1
  cases h : Lab.readsB ls ps x ls[k] <;> simp [h]

set_option maxRecDepth 100000 in
set_option maxHeartbeats 2000000 in
theorem readersR (ao po xo : Option Addr) (b off b' off' n m c d xb xoff xn xc : Nat) (ls : List ByteArray) (ps : List (ByteArray × ByteArray)) (x : List Pol) (w : World) (hn : n = ls.length) (h6 : n ≤ 6) (hs : Strs w ao b off ls) (hp : Pairs w po b' off' m ps) (hr : Act.Right ls ps) (hx : Good w xo xb xoff xn ls x) :
    Calls Tryd.prog 15 #[.slice ao n c, .slice po m d, .slice xo xn xc] w fun e w' => ∃ v, e = .returned v ∧ w'.ownsRow w.heap.size 9 1 v (Lab.readsF ls ps x).length (strC (Lab.readsF ls ps x)) ∧ Below w.heap.size w w' := by
  have HN : Hid (n = ls.length) := hn
  have HSL : Hid (Strs w ao b off ls) := hs
  have HP : Hid (Pairs w po b' off' m ps) := hp
  have HR : Hid (Act.Right ls ps) := hr
  have HX : Hid (Good w xo xb xoff xn ls x) := hx
  have hxm := hx.few
  clear hn hs hp hr hx
  go_enter Tryd.func15, Tryd.ntmps15
  go_wp2
  go_loopw [7, 15] (fun v i wr => ∃ k : Nat, k ≤ n ∧ i = .int .i64 k ∧ Hid (SeenSt w wr v ((ls.take k).filter fun c => Lab.readsB ls ps x c))) (fun _ i _ => n - (intOf i).toNat)
  case atStart => exact ⟨0, Nat.zero_le _, rfl, Below.refl _ _, World.ownsRow_nil _ _ _ _⟩
  case round =>
    obtain ⟨k, hk, rfl, HS⟩ := hrel
    by_cases hlt : k < n
    · have hkl : k < ls.length := by have := HN.out; omega
      have hao := HSL.out.adr (by omega)
      have f0 := (HSL.out.later HS.out.bel).cell k hkl
      have hst := reads_stepR (ps := ps) (x := x) hkl
      obtain ⟨y, hy⟩ : ∃ y, y = ls[k] := ⟨_, rfl⟩
      rw [← hy] at f0 hst
      have HYM : Hid (y ∈ ls) := by show y ∈ ls; rw [hy]; exact List.getElem_mem hkl
      obtain ⟨l, hl⟩ : ∃ l, l = (ls.take k).filter fun c => Lab.readsB ls ps x c := ⟨_, rfl⟩
      rw [← hl] at HS hst
      have hll : l.length ≤ 6 := by
        rw [hl]
        have h1 := List.length_filter_le (fun c => Lab.readsB ls ps x c) (ls.take k)
        have h2 := List.length_take (i := k) (l := ls)
        omega
      obtain ⟨ao', cap', hv⟩ := slice_of HS.out.own
      subst hv
      have HST : Hid ((ls.take (k + 1)).filter (fun c => Lab.readsB ls ps x c) = l ++ (if Lab.readsB ls ps x y = true then [y] else [])) := hst
      clear hl hy hst
      subst hao
      obtain ⟨wq, hwq⟩ : ∃ wq, wq = wr := ⟨wr, rfl⟩
      subst hwq
      go_wp2
      go_loopw [10, 21] (fun s i wx => ∃ j : Nat, j ≤ xn ∧ i = .int .i64 j ∧ s = .int .i64 (cntL ls ps x y j : Nat) ∧ Hid (SeenSt w wx (.slice ao' l.length cap') l)) (fun _ i _ => xn - (intOf i).toNat)
      case atStart => exact ⟨0, Nat.zero_le _, rfl, rfl, HS⟩
      case round =>
        clear HS
        obtain ⟨j, hj, rfl, rfl, HS⟩ := hrel
        have hcl := cntL_le ls ps x y j
        by_cases hlt2 : j < xn
        · have hjl : j < x.length := by have := HX.out.ln; omega
          have hX := HX.out.later HS.out.bel
          have hxo := hX.pols.adr (by omega)
          have g0 := hX.pols.c0 j hjl
          obtain ⟨v, g1, hv⟩ := hX.pols.c1 j hjl
          obtain ⟨ro, rc, rn, hv0⟩ : ∃ ro rc rn, v = .slice ro rn rc := by obtain ⟨ro, _, _, rc, h, _⟩ := hv; exact ⟨ro, rc, _, h⟩
          subst hv0
          have hcs := cntL_step (ls := ls) (ps := ps) (c := y) hjl
          obtain ⟨p, hpj⟩ : ∃ p, p = x[j] := ⟨_, rfl⟩
          rw [← hpj] at g0 hv hcs
          have hpm : p ∈ x := by rw [hpj]; exact List.getElem_mem hjl
          obtain ⟨wv, hwv⟩ : ∃ wv, wv = wr.alloc (.cells #[.string p.1, .slice ro rn rc] 61) := ⟨_, rfl⟩
          have hbv : Below wr.heap.size wr wv := by rw [hwv]; exact (Below.refl _ _).alloc (Nat.le_refl _) _
          have hcall := letsR po b' off' m d ls ps p (.slice ro rn rc) y wv (HP.out.later (HS.out.bel.trans (hbv.mono HS.out.bel.size))) HR.out (HX.out.of p hpm) HYM.out (hv.later hbv) (HX.out.rd p hpm)
          have HSV : Hid (SeenSt w wv (.slice ao' l.length cap') l) := HS.out.later hbv
          have HWV : Hid (wv = wr.alloc (.cells #[.string p.1, .slice ro rn rc] 61)) := hwv
          obtain ⟨t, ht⟩ : ∃ t, t = Lab.letsB ls ps p y := ⟨_, rfl⟩
          rw [← ht] at hcs hcall
          obtain ⟨q, hq⟩ : ∃ q, q = cntL ls ps x y j := ⟨_, rfl⟩
          rw [← hq] at hcs hcl ⊢
          have HCS : Hid (cntL ls ps x y (j + 1) = q + (if t = true then 1 else 0)) := hcs
          clear hX hpj hpm hbv hwv hv ht hq hcs
          subst hxo
          go_wp2_with fail
          rw [← HWV.out]
          refine hcall.mono ?_
          rintro e w2 ⟨rfl, hb2⟩
          have HS2 : Hid (SeenSt w w2 (.slice ao' l.length cap') l) := HSV.out.later hb2
          clear hb2 HS HSV HWV
          cases t with
          | true =>
            go_wp2
            go_roundw
            case rel => exact ⟨j + 1, by omega, by go_num, by rw [HCS.out]; go_num, HS2⟩
            case measure => simp [intOf]; omega
          | false =>
            go_wp2
            go_roundw
            case rel => exact ⟨j + 1, by omega, by go_num, by rw [HCS.out]; simp, HS2⟩
            case measure => simp [intOf]; omega
        · have hcd := cntL_all (ls := ls) (ps := ps) (x := x) (c := y) (j := j) (by have := HX.out.ln; omega)
          have hxl := HX.out.ln
          rw [← hxl] at hcd
          obtain ⟨q, hq⟩ : ∃ q, q = cntL ls ps x y j := ⟨_, rfl⟩
          rw [← hq] at hcd hcl ⊢
          cases hrd : Lab.readsB ls ps x y with
          | true =>
            rw [hrd] at hcd
            have hqx : q = xn := by simpa using hcd
            have HS3 : Hid ((ls.take (k + 1)).filter (fun c => Lab.readsB ls ps x c) = l ++ [y]) := by show _ = _; rw [HST.out, hrd]; simp
            obtain ⟨i0, hi, hz0, hz1, hz2⟩ := info_parts Tryd.infoStr
            have HO : Hid (wr.ownsRow w.heap.size 9 1 (.slice ao' l.length cap') l.length (strC l)) := HS.out.own
            have hbig : w.heap.size ≤ wr.heap.size := HS.out.bel.size
            clear hcd hq hrd hxl HST
            subst hqx
            go_wp2_with (at_builtin; refine wpList_append_own _ rfl _ _ 22 rfl w.heap.size 9 i0 (.string ⟨#[]⟩) 1 16 Tryd.underlying22 hi hz0 hz1 hz2 rfl (by decide) _ _ _ rfl (World.ownsRow.alloc HO.out _) ⟨wr.heap.size, 0, none⟩ 1 1 [.string y] rfl rfl ?c1 ?c2 ?c3 ?c4 ?c5 ?_)
            case c1 => exact one_new _ _ _
            case c2 => intro u hu; simp at hu; subst hu; rfl
            case c3 => unfold maxLen; omega
            case c4 => omega
            case c5 => simp; omega
            · intro v' w5 hown5 hgrow5 _
              have HN5 : Hid (SeenSt w w5 v' (l ++ [y])) := HS.out.step hown5 hgrow5
              clear hown5 hgrow5
              go_wp2
              go_roundw
              case rel => exact ⟨k + 1, by omega, by go_num, by rw [HS3.out]; exact HN5⟩
              case measure => simp [intOf]; omega
          | false =>
            rw [hrd] at hcd
            have hqx : ¬ q = xn := by simpa using hcd
            have hbq : ((q : Int) == (xn : Int)) = false := by simp; omega
            have HS3 : Hid ((ls.take (k + 1)).filter (fun c => Lab.readsB ls ps x c) = l) := by show _ = _; rw [HST.out, hrd]; simp
            clear hcd hq hrd hxl HST hqx
            go_wp2
            go_roundw
            case rel => exact ⟨k + 1, by omega, by go_num, by rw [HS3.out]; exact HS⟩
            case measure => simp [intOf]; omega
    · have HF : Hid ((ls.take k).filter (fun c => Lab.readsB ls ps x c) = Lab.readsF ls ps x) := by
        show _ = _
        rw [List.take_of_length_le (by have := HN.out; omega)]; rfl
      go_wp2
      go_ret
      refine ⟨_, rfl, ?_, HS.out.bel⟩
      rw [← HF.out]
      exact HS.out.own
end Go.Proofs.YtfhpmnghakhlkaaDoor
