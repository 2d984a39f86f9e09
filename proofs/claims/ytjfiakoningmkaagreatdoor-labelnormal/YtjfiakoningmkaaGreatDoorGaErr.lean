/- The document's LessOf. label.Normal, label.Join and label.Less of what is wrong: nothing, and the error. -/
import Derived.Test.YtjfiakoningmkaaGreatDoorNormU
import Derived.Test.YtjfiakoningmkaaGreatDoorGaJoin
namespace Go.Proofs.YtjfiakoningmkaaGreatDoor
open Go.RowKit

/- What the loop over the label holds. -/
def LfSt (w wr : World) (v : Value) (l : List Pol) : Prop := Below w.heap.size w wr ∧ ∃ O : List PV, O.map (·.1) = l ∧ wr.ownsRow w.heap.size 37 2 v O.length (polC O) ∧ ∀ y ∈ O, ReadersAt w y.2 y.1.2

set_option maxRecDepth 100000 in
set_option maxHeartbeats 4000000 in
theorem lessOf (po xo vo : Option Addr) (b off m d xb xoff n c vb voff vn vc : Nat) (ls : List ByteArray) (ps : List (ByteArray × ByteArray)) (x : List Pol) (bs : List ByteArray) (w : World) (hp : Pairs w po b off m ps) (hr : Act.Right ls ps) (hn : n = x.length) (hm : n ≤ 1000) (hx : Pols w xo xb xoff x) (hof : Lab.OfL ls x) (hnm : ∀ s ∈ ls, Lex.nameF s.data.toList = true) (h6 : ∀ p ∈ x, p.2.length ≤ 6)
    (hvn : vn = bs.length) (hvm : vn ≤ 1000) (hv : Strs w vo vb voff bs) (hbs : ∀ s ∈ bs, s ∈ ls) :
    Calls Tryz.prog 15 #[.slice po m d, .slice xo n c, .slice vo vn vc] w fun e w' => ∃ (v : Value) (y : List Pol), e = .returned v ∧ Lab.Norm blt plt ps (leftF ls ps x bs) y ∧ LabNew w' w.heap.size v y ∧ Below w.heap.size w w' := by
  have HP : Hid (Pairs w po b off m ps) := hp
  have HR : Hid (Act.Right ls ps) := hr
  have HN : Hid (n = x.length) := hn
  have HX : Hid (Pols w xo xb xoff x) := hx
  have HOF : Hid (Lab.OfL ls x) := hof
  have HNM : Hid (∀ s ∈ ls, Lex.nameF s.data.toList = true) := hnm
  have H6 : Hid (∀ p ∈ x, p.2.length ≤ 6) := h6
  have HVN : Hid (vn = bs.length) := hvn
  have HV : Hid (Strs w vo vb voff bs) := hv
  have HBS : Hid (∀ s ∈ bs, s ∈ ls) := hbs
  obtain ⟨i0, hi, hz0, hz1, hz2⟩ := info_parts Tryz.infoPolD
  clear hp hr hn hx hof hnm h6 hvn hv hbs
  go_enter Tryz.func15, Tryz.ntmps15
  go_wp2
  go_loopw [7, 15] (fun v i wr => ∃ k : Nat, k ≤ n ∧ i = .int .i64 k ∧ Hid (LfSt w wr v (leftF ls ps (x.take k) bs))) (fun _ i _ => n - (intOf i).toNat)
  case atStart => exact ⟨0, Nat.zero_le _, rfl, Below.refl _ _, [], rfl, World.ownsRow_nil _ _ _ _, fun y hy => by cases hy⟩
  case round =>
    obtain ⟨k, hk, rfl, HS⟩ := hrel
    obtain ⟨hbel, O, hO, hown, hrd⟩ := HS.out
    have HB : Hid (Below w.heap.size w wr) := hbel
    have HO : Hid (O.map (·.1) = leftF ls ps (x.take k) bs) := hO
    have HRD : Hid (∀ y ∈ O, ReadersAt w y.2 y.1.2) := hrd
    obtain ⟨ao', cap', hv7⟩ := slice_of hown
    obtain ⟨N, hN⟩ : ∃ N, N = O.length := ⟨_, rfl⟩
    rw [← hN] at hv7 hown
    subst hv7
    have HNO : Hid (N = O.length) := hN
    have hNk : N ≤ k := by
      rw [hN]
      have h9 := congrArg List.length hO
      rw [List.length_map] at h9
      have h8 : (leftF ls ps (x.take k) bs).length ≤ (x.take k).length := List.length_filter_le _ _
      rw [List.length_take] at h8
      omega
    have HOW : Hid (wr.ownsRow w.heap.size 37 2 (.slice ao' N cap') N (polC O)) := hown
    clear HS hbel hO hown hrd hN
    by_cases hlt : k < n
    · have hkl : k < x.length := by have := HN.out; omega
      have hX := HX.out.later HB.out
      have hao := hX.adr (by omega)
      have f0 := hX.c0 k hkl
      obtain ⟨pv, f1, hv⟩ := hX.c1 k hkl
      obtain ⟨pv', f1', hv'⟩ := HX.out.c1 k hkl
      have hpe : pv = pv' := by
        have h9 := (HB.out.cell (p := ⟨xb, xoff + k * 2 + 1, none⟩) (HX.out.lt (by omega))).trans f1'
        rw [f1] at h9
        exact Option.some.inj h9
      subst hpe
      have hst := left_step (ls := ls) (ps := ps) (bs := bs) hkl
      have hofp := HOF.out _ (List.getElem_mem hkl)
      obtain ⟨p, hp⟩ : ∃ p, p = x[k] := ⟨_, rfl⟩
      rw [← hp] at f0 hv hst hofp hv'
      obtain ⟨o, rs⟩ := p
      simp only at f0 hv hv' hofp
      obtain ⟨ro, rc, rn, hv0⟩ : ∃ ro rc rn, pv = .slice ro rn rc := by obtain ⟨ro, _, _, rc, h, _⟩ := hv; exact ⟨ro, rc, _, h⟩
      subst hv0
      have HRP : Hid (ReadersAt w (.slice ro rn rc) rs) := hv'
      have HOP : Hid (o ∈ ls) := hofp.1
      have HST : Hid (leftF ls ps (x.take (k + 1)) bs = leftF ls ps (x.take k) bs ++ (if goesB ls ps bs (o, rs) = true then [] else [(o, rs)])) := hst
      obtain ⟨wy, hwy⟩ : ∃ wy, wy = wr.alloc (.cells #[.string o, .slice ro rn rc] 37) := ⟨_, rfl⟩
      have hby : Below wr.heap.size wr wy := by rw [hwy]; exact (Below.refl _ _).alloc (Nat.le_refl _) _
      have HBY : Hid (Below wr.heap.size wr wy) := hby
      have HQB : Hid (wy.heap[wr.heap.size]? = some (.cells #[.string o, .slice ro rn rc] 37 (0, 0))) := by show _ = _; rw [hwy]; exact heap_at_alloc _ _ _ rfl
      have HWY : Hid (wy = wr.alloc (.cells #[.string o, .slice ro rn rc] 37)) := hwy
      clear hX hp hv hv' f1' hst hofp hby hwy
      subst hao
      go_wp2
      rw [← HWY.out]
      clear f0 f1 HWY
      obtain ⟨wq, hwq⟩ : ∃ wq, wq = wr := ⟨wr, rfl⟩
      subst hwq
      go_loopw [10, 21] (fun s i wx => ∃ j : Nat, j ≤ vn ∧ i = .int .i64 j ∧ s = .bool ((bs.take j).any fun a => Act.acts ls ps a o) ∧ Hid (Below wy.heap.size wy wx)) (fun _ i _ => vn - (intOf i).toNat)
      case atStart => exact ⟨0, Nat.zero_le _, rfl, by simp, Below.refl _ _⟩
      case round =>
        obtain ⟨j, hj, rfl, rfl, HBX⟩ := hrel
        have HBQ : Hid (Below wq.heap.size wq wr) := HBY.out.trans (HBX.out.mono HBY.out.size)
        have HBW : Hid (Below w.heap.size w wr) := HB.out.trans (HBQ.out.mono HB.out.size)
        have kq := (HBX.out.block _ (lt_of_block HQB.out)).trans HQB.out
        have q0 : wr.cell? ⟨wq.heap.size, 0, none⟩ = some (.string o) := by simp [World.cell?, kq]
        have q1 : wr.cell? ⟨wq.heap.size, 1, none⟩ = some (.slice ro rn rc) := by simp [World.cell?, kq]
        have lq : wq.heap.size < wr.heap.size := lt_of_block kq
        by_cases hlt2 : j < vn
        · have hjl : j < bs.length := by have := HVN.out; omega
          have hvo := HV.out.adr (by omega)
          have r0 := (HV.out.later HBW.out).cell j hjl
          have lv : vb < wr.heap.size := (HV.out.later HBW.out).lt (by omega)
          have hsm := HBS.out _ (List.getElem_mem hjl)
          have htk : ((bs.take (j + 1)).any fun a => Act.acts ls ps a o) = (((bs.take j).any fun a => Act.acts ls ps a o) || Act.acts ls ps bs[j] o) := by
            rw [List.take_succ_eq_append_getElem hjl, List.any_append, List.any_cons, List.any_nil, Bool.or_false]
          obtain ⟨s, hs⟩ : ∃ s, s = bs[j] := ⟨_, rfl⟩
          rw [← hs] at r0 hsm htk
          have hcall := actsB po b off m d ls ps s o wr (HP.out.later HBW.out) HR.out hsm HOP.out
          obtain ⟨t, ht⟩ : ∃ t, t = Act.acts ls ps s o := ⟨_, rfl⟩
          obtain ⟨s0, hs0⟩ : ∃ s0, s0 = (bs.take j).any fun a => Act.acts ls ps a o := ⟨_, rfl⟩
          rw [← ht] at hcall
          rw [← ht, ← hs0] at htk
          rw [← hs0]
          have HTK : Hid (((bs.take (j + 1)).any fun a => Act.acts ls ps a o) = (s0 || t)) := htk
          clear hs ht hs0 htk hsm kq
          subst hvo
          cases s0 with
          | true =>
            go_wp2
            go_roundw
            case rel => exact ⟨j + 1, by omega, by go_num, by rw [HTK.out]; rfl, HBX⟩
            case measure => simp [intOf]; omega
          | false =>
            go_wp2_with fail
            refine hcall.mono ?_
            rintro e w2 ⟨rfl, hb2⟩
            have HB2 : Hid (Below wy.heap.size wy w2) := HBX.out.trans (hb2.mono HBX.out.size)
            clear hb2 hcall
            go_wp2
            go_roundw
            case rel => exact ⟨j + 1, by omega, by go_num, by rw [HTK.out]; simp, HB2⟩
            case measure => simp [intOf]; omega
        · have e9 : ((bs.take j).any fun a => Act.acts ls ps a o) = goesB ls ps bs (o, rs) := by
            rw [List.take_of_length_le (by have := HVN.out; omega)]; rfl
          rw [e9]
          obtain ⟨s0, hs0⟩ : ∃ s0, s0 = goesB ls ps bs (o, rs) := ⟨_, rfl⟩
          rw [← hs0] at HST ⊢
          have HOW2 : Hid (wr.ownsRow w.heap.size 37 2 (.slice ao' N cap') N (polC O)) := own_below HOW.out HBQ.out
          have hbig : w.heap.size ≤ wr.heap.size := HBW.out.size
          clear hs0 e9 kq
          cases s0 with
          | true =>
            have HF : Hid (LfSt w wr (.slice ao' N cap') (leftF ls ps (x.take (k + 1)) bs)) := ⟨HBW.out, O, by rw [HST.out, HO.out]; simp, by rw [← HNO.out]; exact HOW2.out, HRD.out⟩
            go_wp2
            go_roundw
            case rel => exact ⟨k + 1, by omega, by go_num, HF⟩
            case measure => simp [intOf]; omega
          | false =>
            go_wp2_with (at_builtin; refine wpList_append_own _ rfl _ _ 25 rfl w.heap.size 37 i0 (.agg #[.string ⟨#[]⟩, .slice none 0 0]) 2 40 Tryz.underlying25 hi hz0 hz1 hz2 rfl (by decide) _ _ _ rfl (World.ownsRow.alloc HOW2.out _) ⟨wr.heap.size, 0, none⟩ 1 1 [.string o, .slice ro rn rc] rfl rfl ?c1 ?c2 ?c3 ?c4 ?c5 ?_)
            case c1 => exact two_new _ _ _ _
            case c2 => intro u hu; simp at hu; rcases hu with rfl | rfl <;> rfl
            case c3 => unfold maxLen; omega
            case c4 => omega
            case c5 => simp; omega
            · intro v2 w3 hown3 hgrow3 _
              have hlo : ∀ k, (Value.slice ao' N cap').ownBlock = some k → w.heap.size ≤ k := fun k he => (HOW2.out.lt _ he).1
              have HF : Hid (LfSt w w3 v2 (leftF ls ps (x.take (k + 1)) bs)) := by
                refine ⟨(HBW.out.alloc HBW.out.size _).grown hgrow3 (by simp; omega) (fun k he => hlo k he), O ++ [((o, rs), .slice ro rn rc)], by rw [List.map_append, HST.out, HO.out]; simp, ?_, fun y hy => ?_⟩
                · rw [List.length_append, ← HNO.out, ← polC_snoc]
                  exact hown3
                · rcases List.mem_append.1 hy with hy | hy
                  · exact HRD.out y hy
                  · have e : y = ((o, rs), .slice ro rn rc) := by simpa using hy
                    rw [e]; exact HRP.out
              clear hown3 hgrow3 hlo
              go_wp2
              go_roundw
              case rel => exact ⟨k + 1, by omega, by go_num, HF⟩
              case measure => simp [intOf]; omega
    · obtain ⟨b2, off2, hP⟩ := pols_own HNO.out HOW.out (fun y hy => (HRD.out y hy).later HB.out)
      have hO' : O.map (·.1) = leftF ls ps x bs := by rw [HO.out, List.take_of_length_le (by have := HN.out; omega)]
      have hmem : ∀ p ∈ O.map (·.1), p ∈ x := fun p hp => by rw [hO'] at hp; exact (List.mem_filter.1 hp).1
      have hno := normalOf po ao' b off m d b2 off2 N cap' ls ps (O.map (·.1)) wr (HP.out.later HB.out) HR.out (by rw [List.length_map]; exact HNO.out) (by omega) hP (fun p hp => HOF.out p (hmem p hp)) HNM.out (fun p hp => H6.out p (hmem p hp))
      rw [hO'] at hno
      clear hP hO' hmem
      go_wp2_with fail
      refine hno.mono ?_
      rintro e w2 ⟨v, y, rfl, hy, hl, hb2⟩
      have HF : Hid (Lab.Norm blt plt ps (leftF ls ps x bs) y ∧ LabNew w2 w.heap.size v y ∧ Below w.heap.size w w2) := ⟨hy, by
        obtain ⟨M, k1, k2, k3⟩ := hl
        exact ⟨M, k1, ownsRow_le' k2 HB.out.size, k3⟩, HB.out.trans (hb2.mono HB.out.size)⟩
      clear hy hl hb2 hno
      go_wp2
      go_ret
      exact ⟨v, y, rfl, HF.out⟩
end Go.Proofs.YtjfiakoningmkaaGreatDoor

namespace Go.Proofs.YtjfiakoningmkaaGreatDoor
open Go.RowKit

theorem normE (ao po lo : Option Addr) (b off b' off' n m c d lb loff ln lc : Nat) (ls : List ByteArray) (ps : List (ByteArray × ByteArray)) (x : List Pol) (w : World) (hc : Chiefs w ao po b off b' off' n m c ls ps) (hx : LabAt w lo lb loff ln lc x) (h0 : checkL ls ps x ≠ 0) :
    Calls Tryz.prog 4 #[.slice ao n c, .slice po m d, .slice lo ln lc] w fun e w' => e = .returned (.tuple #[.slice none 0 0, .int .i64 (checkL ls ps x)]) ∧ Below w.heap.size w w' := by
  have hk0 := checkLab ao po lo b off b' off' n m c d lb loff ln lc ls ps x w hc hx
  obtain ⟨e0, he0⟩ : ∃ e0, e0 = checkL ls ps x := ⟨_, rfl⟩
  rw [← he0] at hk0 h0 ⊢
  have hb : (e0 == 0) = false := by simp [h0]
  have hb' : (e0 != 0) = true := by simp [h0]
  clear h0 he0 hc hx
  go_enter Tryz.func4, Tryz.ntmps4
  go_wp2_with fail
  refine hk0.mono ?_
  rintro e w1 ⟨rfl, hb1⟩
  have HB1 : Hid (Below w.heap.size w w1) := hb1
  clear hb1 hk0
  go_wp2
  go_ret2
  exact ⟨rfl, HB1.out⟩

theorem joinE (ao po lo mo : Option Addr) (b off b' off' n m c d lb loff ln lc mb moff mn mc : Nat) (ls : List ByteArray) (ps : List (ByteArray × ByteArray)) (x z : List Pol) (w : World) (hc : Chiefs w ao po b off b' off' n m c ls ps) (hx : LabAt w lo lb loff ln lc x) (hz : LabAt w mo mb moff mn mc z) (h0 : bothL ls ps x z ≠ 0) :
    Calls Tryz.prog 5 #[.slice ao n c, .slice po m d, .slice lo ln lc, .slice mo mn mc] w fun e w' => e = .returned (.tuple #[.slice none 0 0, .int .i64 (bothL ls ps x z)]) ∧ Below w.heap.size w w' := by
  have hk0 := checkBothC ao po lo mo b off b' off' n m c d lb loff ln lc mb moff mn mc ls ps x z w hc hx hz
  obtain ⟨e0, he0⟩ : ∃ e0, e0 = bothL ls ps x z := ⟨_, rfl⟩
  rw [← he0] at hk0 h0 ⊢
  have hb : (e0 == 0) = false := by simp [h0]
  have hb' : (e0 != 0) = true := by simp [h0]
  clear h0 he0 hc hx hz
  go_enter Tryz.func5, Tryz.ntmps5
  go_wp2_with fail
  refine hk0.mono ?_
  rintro e w1 ⟨rfl, hb1⟩
  have HB1 : Hid (Below w.heap.size w w1) := hb1
  clear hb1 hk0
  go_wp2
  go_ret2
  exact ⟨rfl, HB1.out⟩

theorem lessErr (ao po lo vo : Option Addr) (b off b' off' n m c d lb loff ln lc vb voff vn vc : Nat) (ls : List ByteArray) (ps : List (ByteArray × ByteArray)) (x : List Pol) (bs : List ByteArray) (w : World) (hc : Chiefs w ao po b off b' off' n m c ls ps) (hx : LabAt w lo lb loff ln lc x) (hvn : vn = bs.length) (hvm : vn ≤ maxLen) (hv : Strs w vo vb voff bs) (h0 : lessE ls ps x bs ≠ 0) :
    Calls Tryz.prog 6 #[.slice ao n c, .slice po m d, .slice lo ln lc, .slice vo vn vc] w fun e w' => e = .returned (.tuple #[.slice none 0 0, .int .i64 (lessE ls ps x bs)]) ∧ Below w.heap.size w w' := by
  have hk0 := checkLab ao po lo b off b' off' n m c d lb loff ln lc ls ps x w hc hx
  by_cases h1 : checkL ls ps x = 0
  · have e9 : lessE ls ps x bs = amongF ls bs := by unfold lessE; rw [if_pos h1]
    rw [e9] at h0 ⊢
    rw [h1] at hk0
    have HAM : Hid (∀ W, Below w.heap.size w W → Calls Tryz.prog 20 #[.slice ao n c, .slice vo vn vc] W fun e w' => e = .returned (.int .i64 (amongF ls bs)) ∧ w' = W) := fun W hW =>
      among_any ao vo b off vb voff n vn c vc ls bs W hc.ln hc.mn hvn hvm (hc.strs.later hW) (hv.later hW)
    obtain ⟨e0, he0⟩ : ∃ e0, e0 = amongF ls bs := ⟨_, rfl⟩
    rw [← he0] at h0 HAM ⊢
    have hb : (e0 == 0) = false := by simp [h0]
    have hb' : (e0 != 0) = true := by simp [h0]
    clear h0 he0 hc hx hvn hvm hv h1 e9
    go_enter Tryz.func6, Tryz.ntmps6
    go_wp2_with fail
    refine hk0.mono ?_
    rintro e w1 ⟨rfl, hb1⟩
    have HB1 : Hid (Below w.heap.size w w1) := hb1
    clear hb1 hk0
    go_wp2_with fail
    refine (HAM.out w1 HB1.out).mono ?_
    rintro e w1' ⟨rfl, rfl⟩
    go_wp2
    go_ret2
    exact ⟨rfl, HB1.out⟩
  · have e9 : lessE ls ps x bs = checkL ls ps x := by unfold lessE; rw [if_neg h1]
    rw [e9]
    obtain ⟨e0, he0⟩ : ∃ e0, e0 = checkL ls ps x := ⟨_, rfl⟩
    rw [← he0] at hk0 h1 ⊢
    have hb : (e0 == 0) = false := by simp [h1]
    have hb' : (e0 != 0) = true := by simp [h1]
    clear h0 he0 hc hx h1 e9 hvn hvm hv
    go_enter Tryz.func6, Tryz.ntmps6
    go_wp2_with fail
    refine hk0.mono ?_
    rintro e w1 ⟨rfl, hb1⟩
    have HB1 : Hid (Below w.heap.size w w1) := hb1
    clear hb1 hk0
    go_wp2
    go_ret2
    exact ⟨rfl, HB1.out⟩
end Go.Proofs.YtjfiakoningmkaaGreatDoor
