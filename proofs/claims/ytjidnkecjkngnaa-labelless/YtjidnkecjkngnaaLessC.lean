/- Contract of label.Less. -/
import Derived.Test.YtjidnkecjkngnaaJoinC
namespace Go.Proofs.Ytjidnkecjkngnaa
open Go.RowKit Go.Maps

def lessE (ls : List ByteArray) (ps : List (ByteArray × ByteArray)) (x : List Pol) (bs : List ByteArray) : Int := if checkL ls ps x = 0 then amongF ls bs else checkL ls ps x
def goesB (ls : List ByteArray) (ps : List (ByteArray × ByteArray)) (bs : List ByteArray) (p : Pol) : Bool := bs.any fun a => Act.acts ls ps a p.1
def leftF (ls : List ByteArray) (ps : List (ByteArray × ByteArray)) (x : List Pol) (bs : List ByteArray) : List Pol := x.filter fun p => !goesB ls ps bs p

theorem may_any (B : Nat) (T : ByteArray → ByteArray → Bool) (ob pb : Nat) (o a : ByteArray) (w : World) (h : Ord w B T) (ha : a.size ≤ maxLen) (ho : o.size ≤ maxLen)
    (c0 : w.cell? ⟨ob, 0, none⟩ = some (.map (some B))) (c1 : w.cell? ⟨pb, 0, none⟩ = some (.string o)) :
    Calls Try.prog 44 #[.string a, .pointer (some ⟨ob, 0, none⟩), .pointer (some ⟨pb, 0, none⟩)] w fun e w' => e = .returned (.bool (T a o)) ∧ Below w.heap.size w w' := by
  have HK : Hid (Calls Try.prog 45 #[.map (some B), .string a, .string o] w fun e w' => e = .returned (.bool (T a o)) ∧ Below w.heap.size w w') := oacts_any B T a o w h ha ho
  clear h ha ho
  obtain ⟨t, ht⟩ : ∃ t, t = T a o := ⟨_, rfl⟩
  rw [← ht] at HK ⊢
  clear ht
  go_enter Try.func44, Try.ntmps44
  go_wp2_with fail
  refine HK.out.mono ?_
  rintro e w1 ⟨rfl, hb1⟩
  go_wp2
  go_ret
  exact ⟨rfl, hb1⟩

theorem RiseSt.add {w wr w2 w3 : World} {v v2 : Value} {L : List PV} {B : Nat} {T : ByteArray → ByteArray → Bool} {y : PV} (h : RiseSt w wr v L B T) (hB : B < w.heap.size) (hb : Below wr.heap.size wr w2) (ho : Off w2 v.ownBlock y) (hown : w3.ownsRow (w.heap.size + 1) 51 2 v2 (L.length + 1) (polC L ++ [.string y.1.1, y.2]))
    (hgr : (w2.alloc (.cells #[.string y.1.1, y.2] 51)).grownBy w3 v.ownBlock) (hloc : v2.ownBlock = v.ownBlock ∨ v2.ownBlock = some (w2.alloc (.cells #[.string y.1.1, y.2] 51)).heap.size) : RiseSt w w3 v2 (L ++ [y]) B T := by
  have h2 := (h.later hb).later ((Below.refl w2.heap.size w2).alloc (Nat.le_refl _) (.cells #[.string y.1.1, y.2] 51))
  have hne : ∀ k, some k = v.ownBlock → w.heap.size + 1 ≤ k := fun k he => (h.own.lt _ he.symm).1
  refine ⟨h2.bel.grown hgr h2.bel.size (fun k he => by have := hne k he.symm; omega), ?_, ?_, ?_, fun z hz => ?_⟩
  · rw [hgr.block _ (lt_of_block h2.box) (fun he => by have := hne _ he; omega)]; exact h2.box
  · obtain ⟨n, D, k1, k2⟩ := h2.ord
    exact ⟨n, D, k1.kept hgr (fun he => by have := hne _ he; omega), k2⟩
  · rw [← polC_snoc, List.length_append]; exact hown
  · rcases List.mem_append.1 hz with hz | hz
    · exact off_step (h2.off z hz) hgr hloc
    · have e : z = y := by simpa using hz
      subst e
      exact off_step (ho.later ((Below.refl _ _).alloc (Nat.le_refl _) _)) hgr hloc
theorem left_step {ls : List ByteArray} {ps : List (ByteArray × ByteArray)} {x : List Pol} {bs : List ByteArray} {k : Nat} (hk : k < x.length) : leftF ls ps (x.take (k + 1)) bs = leftF ls ps (x.take k) bs ++ (if goesB ls ps bs x[k] = true then [] else [x[k]]) := by
  unfold leftF
  rw [List.take_succ_eq_append_getElem hk, List.filter_append]
  congr 1
  cases h : goesB ls ps bs x[k] <;> simp [h]

set_option maxRecDepth 100000 in
set_option maxHeartbeats 4000000 in
theorem lessC (ao po lo vo : Option Addr) (b off b' off' n m c d lb loff ln lc vb voff vn vc : Nat) (ls : List ByteArray) (ps : List (ByteArray × ByteArray)) (x : List Pol) (bs : List ByteArray) (w : World) (hc : Chiefs w ao po b off b' off' n m c ls ps) (hx : LabAt w lo lb loff ln lc x) (hvn : vn = bs.length) (hvm : vn ≤ maxLen) (hv : Strs w vo vb voff bs) :
    Calls Try.prog 21 #[.slice ao n c, .slice po m d, .slice lo ln lc, .slice vo vn vc] w fun e w' => ∃ (v : Value) (y : List Pol), e = .returned (.tuple #[v, .int .i64 (lessE ls ps x bs)]) ∧ (lessE ls ps x bs = 0 → Lab.Norm blt plt ps (leftF ls ps x bs) y) ∧ LabNew w' w.heap.size v y ∧ Below w.heap.size w w' := by
  have hk0 := checkLab ao po lo b off b' off' n m c d lb loff ln lc ls ps x w hc hx
  have HC : Hid (Chiefs w ao po b off b' off' n m c ls ps) := hc
  have HX : Hid (LabAt w lo lb loff ln lc x) := hx
  have HVN : Hid (vn = bs.length) := hvn
  have HVM : Hid (vn ≤ maxLen) := hvm
  have HV : Hid (Strs w vo vb voff bs) := hv
  clear hc hx hvn hvm hv
  by_cases h0 : checkL ls ps x = 0
  · have HE : Hid (lessE ls ps x bs = amongF ls bs) := by show _ = _; simp [lessE, h0]
    have HCK : Hid (checkF ls ps = 0 ∧ x.length ≤ 200 ∧ Lab.OfL ls x ∧ ∀ p ∈ x, p.2.length ≤ 6) := checkL_ok h0
    rw [HE.out]
    rw [h0] at hk0
    clear h0 HE
    have HAM : Hid (∀ w1, Below w.heap.size w w1 → Calls Try.prog 43 #[.slice ao n c, .slice vo vn vc] w1 fun e w' => e = .returned (.int .i64 (amongF ls bs)) ∧ w' = w1) := fun w1 hb => among_any ao vo b off vb voff n vn c vc ls bs w1 HC.out.ln HC.out.mn HVN.out HVM.out (HC.out.strs.later hb) (HV.out.later hb)
    by_cases h1 : amongF ls bs = 0
    · have HBS : Hid (bs.length ≤ 6 ∧ ∀ s ∈ bs, s ∈ ls) := among_ok h1
      rw [h1] at HAM ⊢
      clear h1
      have hmf : ∀ (fn : Fn) (first cap : Array Value) (w : World), (Instr.makeFunc fn first cap).run Try.prog w = .ok (.func fn first cap) w := fun _ _ _ _ => rfl
      have HNL : Hid (∀ s ∈ ls, s.size ≤ maxLen) := fun s hs => by have := name_short ((right_of HCK.out.1).2.2.2 s hs); unfold maxLen; omega
      have hln : ln ≤ 200 := by have h1 := HCK.out.2.1; have h2 := HX.out.ln; omega
      obtain ⟨i0, hi, hz0, hz1, hz2⟩ := info_parts Try.infoPolD
      go_enter Try.func21, Try.ntmps21
      go_wp2_with fail
      refine hk0.mono ?_
      rintro e w1 ⟨rfl, hb1⟩
      have HB1 : Hid (Below w.heap.size w w1) := hb1
      clear hb1 hk0
      go_wp2_with fail
      refine (HAM.out w1 HB1.out).mono ?_
      rintro e w1' ⟨rfl, rfl⟩
      have hwh := wholeL ao po b off b' off' n m c d ls ps w1' (HC.out.later HB1.out) HCK.out.1
      clear HAM
      go_wp2_with fail
      refine hwh.mono ?_
      rintro e w2 ⟨rfl, hord, hb2⟩
      have HB2 : Hid (Below w.heap.size w w2) := HB1.out.trans (hb2.mono HB1.out.size)
      obtain ⟨B, hB⟩ : ∃ B, B = w1'.heap.size := ⟨_, rfl⟩
      rw [← hB] at hord
      have HBW : Hid (B < w2.heap.size) := hord.lt
      have HS0 : Hid (RiseSt w2 (w2.alloc (.cells #[.map (some B)] 67)) (.slice none 0 0) [] B (Act.acts ls ps)) := by
        have hb : Below w2.heap.size w2 (w2.alloc (.cells #[.map (some B)] 67)) := (Below.refl _ _).alloc (Nat.le_refl _) _
        exact ⟨hb, heap_at_alloc _ _ _ rfl, hord.later hb, World.ownsRow_nil _ _ _ _, fun y hy => by cases hy⟩
      rw [← hB]
      clear hord hb2 hwh hB HB1
      go_wp2
      go_loopw [13, 35] (fun v i wr => ∃ k : Nat, k ≤ ln ∧ i = .int .i64 k ∧ Hid (∃ L : List PV, RiseSt w2 wr v L B (Act.acts ls ps) ∧ L.map (·.1) = leftF ls ps (x.take k) bs)) (fun _ i _ => ln - (intOf i).toNat)
      case atStart => exact ⟨0, Nat.zero_le _, rfl, [], HS0.out, rfl⟩
      case round =>
        clear HS0
        obtain ⟨k, hk, rfl, HL⟩ := hrel
        obtain ⟨L, hS, hLm⟩ := HL.out
        have HS : Hid (RiseSt w2 wr u13 L B (Act.acts ls ps)) := hS
        have HLM : Hid (L.map (·.1) = leftF ls ps (x.take k) bs) := hLm
        have hLk : L.length ≤ k := by
          have h1 := congrArg List.length hLm
          rw [List.length_map] at h1
          have h2 : (leftF ls ps (x.take k) bs).length ≤ (x.take k).length := List.length_filter_le _ _
          rw [List.length_take] at h2
          omega
        clear HL hS hLm
        obtain ⟨N, hN⟩ : ∃ N, N = L.length := ⟨_, rfl⟩
        obtain ⟨ao', cap', hv5⟩ := slice_of HS.out.own
        rw [← hN] at hv5 hLk
        subst hv5
        have HWR : Hid (Below w.heap.size w wr) := HB2.out.trans (HS.out.bel.mono HB2.out.size)
        have HOWN : Hid (wr.ownsRow (w2.heap.size + 1) 51 2 (.slice ao' N cap') N (polC L)) := by have h9 := HS.out.own; rw [← hN] at h9; exact h9
        have HNN : Hid (N = L.length) := hN
        clear hN
        by_cases hlt : k < ln
        · have hkl : k < x.length := by have := HX.out.ln; omega
          have hX := HX.out.pols.later HWR.out
          have hao := hX.adr (by omega)
          have f0 := hX.c0 k hkl
          obtain ⟨pv, g1, hv⟩ := HX.out.pols.c1 k hkl
          have f1 := (HWR.out.cell (p := ⟨lb, loff + k * 2 + 1, none⟩) (HX.out.pols.lt (by omega))).trans g1
          have hof := HCK.out.2.2.1 _ (List.getElem_mem hkl)
          have hst := left_step (ls := ls) (ps := ps) (bs := bs) hkl
          obtain ⟨p, hp⟩ : ∃ p, p = x[k] := ⟨_, rfl⟩
          rw [← hp] at f0 hv hof hst
          obtain ⟨ro, rc, rn, hv0⟩ : ∃ ro rc rn, pv = .slice ro rn rc := by obtain ⟨ro, _, _, rc, h, _⟩ := hv; exact ⟨ro, rc, _, h⟩
          subst hv0
          obtain ⟨wy, hwy⟩ : ∃ wy, wy = wr.alloc (.cells #[.string p.1, .slice ro rn rc] 51) := ⟨_, rfl⟩
          have hby : Below wr.heap.size wr wy := by rw [hwy]; exact (Below.refl _ _).alloc (Nat.le_refl _) _
          have k1 : wy.heap[wr.heap.size]? = some (.cells #[.string p.1, .slice ro rn rc] 51 (0, 0)) := by rw [hwy]; exact heap_at_alloc _ _ _ rfl
          have hSY := HS.out.later hby
          have HFN : Hid (Calls Try.prog 15 #[.slice vo vn vc, .func (.func 44) #[] #[.pointer (some ⟨w2.heap.size, 0, none⟩), .pointer (some ⟨wr.heap.size, 0, none⟩)]] wy fun e w' => e = .returned (.bool (goesB ls ps bs p)) ∧ Below wy.heap.size wy w') :=
            containsFuncS _ _ (enters_of Try.func44 (by kernel_rfl) rfl) (fun a => Act.acts ls ps a p.1) vo vb voff vn vc bs wy HVN.out (by have h1 := HBS.out.1; have h2 := HVN.out; omega) (HV.out.later (HWR.out.trans (hby.mono HWR.out.size))) (fun W a ha hW =>
              may_any B (Act.acts ls ps) w2.heap.size wr.heap.size p.1 a W (hSY.ord.later hW) (HNL.out a (HBS.out.2 a ha)) (HNL.out _ hof.1)
                (by have e := (hW.block _ (lt_of_block hSY.box)).trans hSY.box; simp [World.cell?, e]) (by have e := (hW.block _ (lt_of_block k1)).trans k1; simp [World.cell?, e]))
          have HK1 : Hid (∀ W, Below wy.heap.size wy W → W.cell? ⟨wr.heap.size, 0, none⟩ = some (.string p.1) ∧ W.cell? ⟨wr.heap.size, 1, none⟩ = some (.slice ro rn rc)) := fun W hW => by
            have e := (hW.block _ (lt_of_block k1)).trans k1
            exact ⟨by simp [World.cell?, e], by simp [World.cell?, e]⟩
          have HOFF : Hid (∀ W, Below wr.heap.size wr W → Off W (Value.slice ao' N cap').ownBlock (p, .slice ro rn rc)) := fun W hW => by
            obtain ⟨a1, a2, a3, a4, q1, q2, q3, q4⟩ := hv
            have hww := HWR.out.trans (hW.mono HWR.out.size)
            refine ⟨a1, a2, a3, a4, q1, q2, q3, q4.later hww, fun hp he => ?_⟩
            have r1 := q4.lt hp
            have r2 := (HOWN.out.lt _ he.symm).1
            have r3 := HB2.out.size
            omega
          have HST : Hid (leftF ls ps (x.take (k + 1)) bs = leftF ls ps (x.take k) bs ++ (if goesB ls ps bs p = true then [] else [p])) := hst
          have HBY : Hid (Below wr.heap.size wr wy) := hby
          have HWY : Hid (wy = wr.alloc (.cells #[.string p.1, .slice ro rn rc] 51)) := hwy
          have hly : wr.heap.size < wy.heap.size := lt_of_block k1
          clear hX hp hv hof hst hby hwy k1 hSY g1
          subst hao
          obtain ⟨t, ht⟩ : ∃ t, t = goesB ls ps bs p := ⟨_, rfl⟩
          rw [← ht] at HFN HST
          clear ht
          go_wp2_with fail
          rw [← HWY.out]
          refine HFN.out.mono ?_
          clear HFN
          rintro e w4 ⟨rfl, hb4⟩
          obtain ⟨d1, d2⟩ := HK1.out w4 hb4
          have HB4 : Hid (Below wr.heap.size wr w4) := HBY.out.trans (hb4.mono HBY.out.size)
          clear hb4 HK1 HWY HBY
          cases t with
          | true =>
            have HN3 : Hid (∃ L : List PV, RiseSt w2 w4 (.slice ao' N cap') L B (Act.acts ls ps) ∧ L.map (·.1) = leftF ls ps (x.take (k + 1)) bs) := ⟨L, HS.out.later HB4.out, by rw [HLM.out, HST.out]; simp⟩
            clear HS HLM HST HOWN
            go_wp2
            go_roundw
            case rel => exact ⟨k + 1, by omega, by go_num, HN3⟩
            case measure => simp [intOf]; omega
          | false =>
            have HO2 : Hid (w4.ownsRow (w2.heap.size + 1) 51 2 (.slice ao' N cap') N (polC L)) := own_below HOWN.out HB4.out
            have hbig : w2.heap.size + 1 ≤ w4.heap.size := Nat.le_trans (lt_of_block HS.out.box) HB4.out.size
            have h1c : ∀ u ∈ [Value.string p.1, Value.slice ro rn rc], u.oneCell' = true := by intro u hu; simp at hu; rcases hu with rfl | rfl <;> rfl
            go_wp2_with (at_builtin; refine wpList_append_own_at _ rfl _ _ 23 rfl (w2.heap.size + 1) 51 i0 (.agg #[.string ⟨#[]⟩, .slice none 0 0]) 2 40 Try.underlying23 hi hz0 hz1 hz2 rfl (by decide) _ _ _ rfl (World.ownsRow.alloc HO2.out _) ⟨w4.heap.size, 0, none⟩ 1 1 [.string p.1, .slice ro rn rc] rfl rfl ?c1 h1c ?c3 ?c4 ?c5 ?_)
            case c1 => exact two_new _ _ _ _
            case c3 => unfold maxLen; omega
            case c4 => omega
            case c5 => simp; omega
            · intro v2 w5 hown5 hgrow5 _ hloc5
              have HN3 : Hid (∃ L : List PV, RiseSt w2 w5 v2 L B (Act.acts ls ps) ∧ L.map (·.1) = leftF ls ps (x.take (k + 1)) bs) :=
                ⟨L ++ [(p, .slice ro rn rc)], HS.out.add (y := (p, .slice ro rn rc)) HBW.out HB4.out (HOFF.out w4 HB4.out) (by rw [← HNN.out]; exact hown5) hgrow5 (hloc5.imp id fun h9 => h9.trans (by simp)), by rw [List.map_append, HLM.out, HST.out]; simp⟩
              clear hown5 hgrow5 hloc5 HS HLM HST HOWN
              go_wp2
              go_roundw
              case rel => exact ⟨k + 1, by omega, by go_num, HN3⟩
              case measure => simp [intOf]; omega
        · have hkn : k = ln := by omega
          have hL : L.map (·.1) = leftF ls ps x bs := by rw [HLM.out, List.take_of_length_le (by have := HX.out.ln; omega)]
          have hsub : ∀ q ∈ L.map (·.1), q ∈ x := by rw [hL]; intro q hq; exact (List.mem_filter.1 hq).1
          obtain ⟨pb, poff, hpc⟩ := pols_own HNN.out HOWN.out (fun y hy => (HS.out.off y hy).at')
          have c0 : wr.cell? ⟨w2.heap.size, 0, none⟩ = some (.map (some B)) := by have e := HS.out.box; simp [World.cell?, e]
          have hno := normalN B ls ps ao' pb poff N cap' (L.map (·.1)) wr HCK.out.1 (fun q hq => HCK.out.2.2.1 q (hsub q hq)) (fun q hq => HCK.out.2.2.2 q (hsub q hq)) HS.out.ord (by rw [List.length_map]; exact HNN.out) (by omega) hpc
          rw [hL] at hno
          clear hpc hsub hL HS HLM HOWN
          go_wp2_with fail
          refine hno.mono ?_
          rintro e w4 ⟨v, y, rfl, hy, hl, hb4⟩
          have HF : Hid (Lab.Norm blt plt ps (leftF ls ps x bs) y ∧ LabNew w4 w.heap.size v y ∧ Below w.heap.size w w4) := ⟨hy, by
            obtain ⟨M, k1, k2, k3⟩ := hl
            exact ⟨M, k1, ownsRow_le' k2 HWR.out.size, k3⟩, HWR.out.trans (hb4.mono HWR.out.size)⟩
          clear hy hl hb4 hno
          go_wp2
          go_ret2
          exact ⟨v, y, rfl, fun _ => HF.out.1, HF.out.2.1, HF.out.2.2⟩
    · obtain ⟨e0, he0⟩ : ∃ e0, e0 = amongF ls bs := ⟨_, rfl⟩
      rw [← he0] at HAM h1 ⊢
      have hb : (e0 == 0) = false := by simp [h1]
      have hb' : (e0 != 0) = true := by simp [h1]
      have HH : Hid (¬ e0 = 0) := h1
      clear h1 he0
      go_enter Try.func21, Try.ntmps21
      go_wp2_with fail
      refine hk0.mono ?_
      rintro e w1 ⟨rfl, hb1⟩
      have HB1 : Hid (Below w.heap.size w w1) := hb1
      clear hb1 hk0
      go_wp2_with fail
      refine (HAM.out w1 HB1.out).mono ?_
      rintro e w1' ⟨rfl, rfl⟩
      go_wp2
      go_ret2
      exact ⟨_, [], rfl, fun h => absurd h HH.out, ⟨[], rfl, World.ownsRow_nil _ _ _ _, fun z hz => by cases hz⟩, HB1.out⟩
  · have HE : Hid (lessE ls ps x bs = checkL ls ps x) := by show _ = _; simp [lessE, h0]
    rw [HE.out]
    obtain ⟨e0, he0⟩ : ∃ e0, e0 = checkL ls ps x := ⟨_, rfl⟩
    rw [← he0] at hk0 h0 ⊢
    have hb : (e0 == 0) = false := by simp [h0]
    have hb' : (e0 != 0) = true := by simp [h0]
    have HH : Hid (¬ e0 = 0) := h0
    clear h0 he0 HE
    go_enter Try.func21, Try.ntmps21
    go_wp2_with fail
    refine hk0.mono ?_
    rintro e w1 ⟨rfl, hb1⟩
    have HB1 : Hid (Below w.heap.size w w1) := hb1
    clear hb1 hk0
    go_wp2
    go_ret2
    exact ⟨_, [], rfl, fun h => absurd h HH.out, ⟨[], rfl, World.ownsRow_nil _ _ _ _, fun z hz => by cases hz⟩, HB1.out⟩
end Go.Proofs.Ytjidnkecjkngnaa
