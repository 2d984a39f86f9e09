/- The law ChiefLeast, walked. -/
import Derived.Test.YtilapnfdijjobaaDoorChiefed
import Derived.Test.YtilapnfdijjobaaDoorCheckR
import Derived.Test.YtilapnfdijjobaaDoorOverR
import Derived.Laws.EntriesVeiled
namespace Go.Proofs.YtilapnfdijjobaaDoor
open Go.RowKit

/- The pairs that are wanted, as they are gathered. -/
structure PairSt (w wr : World) (v : Value) (l : List (ByteArray × ByteArray)) : Prop where
  bel : Below w.heap.size w wr
  own : wr.ownsRow w.heap.size 48 2 v l.length (prC l)
theorem PairSt.later {w wr w1 : World} {v : Value} {l : List (ByteArray × ByteArray)} (h : PairSt w wr v l) (hb : Below wr.heap.size wr w1) : PairSt w w1 v l :=
  ⟨h.bel.trans (hb.mono h.bel.size), own_below h.own hb⟩
theorem PairSt.step {w wr w2 : World} {v v' : Value} {l : List (ByteArray × ByteArray)} {s t : ByteArray} {o : Obj} (h : PairSt w wr v l) (hown : w2.ownsRow w.heap.size 48 2 v' (l.length + 1) (prC l ++ [.string s, .string t])) (hgr : (wr.alloc o).grownBy w2 v.ownBlock) : PairSt w w2 v' (l ++ [(s, t)]) := by
  refine ⟨(h.bel.alloc h.bel.size o).grown hgr (by have := h.bel.size; simp; omega) (fun k he => (h.own.lt _ he).1), ?_⟩
  simpa [prC] using hown

theorem own_not {w : World} {B X : Nat} {v : Value} {l : List (ByteArray × ByteArray)} {x : ByteArray} (h : w.ownsRow B 48 2 v l.length (prC l)) (hX : w.heap[X]? = some (.cells #[.string x] 9 (0, 0))) : some X ≠ v.ownBlock := by
  rcases h.2 with ⟨rfl, _⟩ | ⟨g, cap, cur, rfl, _, hg, _⟩
  · simp [Value.ownBlock]
  · simp only [Value.ownBlock, ne_eq, Option.some.injEq]
    intro e
    rw [e, hg] at hX
    simp at hX

set_option maxHeartbeats 4000000 in
set_option maxRecDepth 100000 in
theorem law_least (ao po : Option Addr) (b off b' off' n m c d : Nat) (mx : Int) (ls : List ByteArray) (ps : List (ByteArray × ByteArray)) (w : World) (hc : Chiefs w ao po b off b' off' n m c ls ps) (hpz : ∀ p ∈ ps, p.1.size ≤ maxLen ∧ p.2.size ≤ maxLen) (hmx : w.cell? ⟨2, 0, none⟩ = some (.int .i64 mx)) :
    Calls Tryd.prog 5 #[.slice ao n c, .slice po m d] w fun e w' => e = .returned (.bool true) ∧ Below w.heap.size w w' := by
  have HPZ : Hid (∀ p ∈ ps, p.1.size ≤ maxLen ∧ p.2.size ≤ maxLen) := hpz
  have HMX : Hid (w.cell? ⟨2, 0, none⟩ = some (.int .i64 mx)) := hmx
  have hgl : 2 < w.heap.size := World.block_lt_of_cell? w _ hmx
  have HW0 : Hid (Below w.heap.size w (w.alloc (.cells #[.slice po m d] 35))) := (Below.refl _ _).alloc (Nat.le_refl _) _
  have HC0 : Hid (Chiefs (w.alloc (.cells #[.slice po m d] 35)) ao po b off b' off' n m c ls ps) := hc.later HW0.out
  have HA0 : Hid ((w.alloc (.cells #[.slice po m d] 35)).heap[w.heap.size]? = some (.cells #[.slice po m d] 35 (0, 0))) := heap_at_alloc _ _ _ rfl
  clear hc hpz hmx
  go_enter Tryd.func5, Tryd.ntmps5
  go_wp2_with fail
  refine (least_any _ _ _ _ _ _ _ _ _ _ ls ps _ HC0.out).mono ?_
  rintro e w1 ⟨vm, rfl, hom, hb1⟩
  obtain ⟨em, hem⟩ : ∃ em, em = leastE ls ps := ⟨_, rfl⟩
  rw [← hem]
  have HEM : Hid (em = leastE ls ps) := hem
  have HOM1 : Hid (w1.ownsRow (w.alloc (.cells #[.slice po m d] 35)).heap.size 48 2 vm (leastV ls ps).length (prC (leastV ls ps))) := hom
  have HC1 : Hid (Chiefs w1 ao po b off b' off' n m c ls ps) := HC0.out.later hb1
  have HB1 : Hid (Below w.heap.size w w1) := HW0.out.trans (hb1.mono (by simp))
  have hA1 : w1.heap[w.heap.size]? = some (.cells #[.slice po m d] 35 (0, 0)) := (hb1.block _ (by simp)).trans HA0.out
  have HA1 : Hid (w1.heap[w.heap.size]? = some (.cells #[.slice po m d] 35 (0, 0))) := hA1
  have ca1 : w1.cell? ⟨w.heap.size, 0, none⟩ = some (.slice po m d) := by simp [World.cell?, hA1]
  obtain ⟨am0, cm0, hvm0'⟩ := slice_of hom
  have HVM0 : Hid (vm = .slice am0 (leastV ls ps).length cm0) := hvm0'
  clear hvm0'
  clear hem hom hb1 HC0 HA0 HW0 hA1
  go_wp2_with fail
  refine (checkR_any _ _ _ _ _ _ _ _ _ _ mx ls ps _ HC1.out HPZ.out ((HB1.out.cell (p := ⟨2, 0, none⟩) hgl).trans HMX.out)).mono ?_
  rintro e w2 ⟨rfl, hb2⟩
  obtain ⟨e0, he0⟩ : ∃ e0, e0 = checkF ls ps := ⟨_, rfl⟩
  rw [← he0]
  have HE0 : Hid (e0 = checkF ls ps) := he0
  have HB2 : Hid (Below w.heap.size w w2) := HB1.out.trans (hb2.mono HB1.out.size)
  have HOM2 : Hid (w2.ownsRow (w.alloc (.cells #[.slice po m d] 35)).heap.size 48 2 vm (leastV ls ps).length (prC (leastV ls ps))) := own_below HOM1.out hb2
  have HC2 : Hid (Chiefs w2 ao po b off b' off' n m c ls ps) := HC1.out.later hb2
  have HA2 : Hid (w2.heap[w.heap.size]? = some (.cells #[.slice po m d] 35 (0, 0))) := (hb2.block _ (lt_of_block HA1.out)).trans HA1.out
  clear he0 hb2 HOM1 HC1 HB1 HA1 ca1
  go_wp2_with fail
  refine (chiefed_any _).mono ?_
  rintro e w3 ⟨rfl, hb3⟩
  have HB3 : Hid (Below w.heap.size w w3) := HB2.out.trans (hb3.mono HB2.out.size)
  have HOM3 : Hid (w3.ownsRow (w.alloc (.cells #[.slice po m d] 35)).heap.size 48 2 vm (leastV ls ps).length (prC (leastV ls ps))) := own_below HOM2.out hb3
  have HC3 : Hid (Chiefs w3 ao po b off b' off' n m c ls ps) := HC2.out.later hb3
  have hA3 : w3.heap[w.heap.size]? = some (.cells #[.slice po m d] 35 (0, 0)) := (hb3.block _ (lt_of_block HA2.out)).trans HA2.out
  have ca3 : w3.cell? ⟨w.heap.size, 0, none⟩ = some (.slice po m d) := by simp [World.cell?, hA3]
  clear hb3 HOM2 HC2 HB2 HA2 hA3
  by_cases h0 : e0 = 0
  · have hz := HE0.out.symm.trans h0
    subst h0
    obtain ⟨g1, g2, g3, _⟩ := right_of hz
    have HZ : Hid (checkF ls ps = 0) := hz
    have hm10 : m ≤ 10 := by have := HC3.out.lm; omega
    have hn6 : n ≤ 6 := by have := HC3.out.ln; omega
    have HL6 : Hid (ls.length ≤ 6) := g1
    have HO3 : Hid (OverAt w3 w.heap.size po b' off' m d ls ps) := ⟨ca3, HC3.out.lm, hm10, HC3.out.prs, g3⟩
    have hmf : ∀ (fn : Fn) (first cap : Array Value) (w : World), (Instr.makeFunc fn first cap).run Tryd.prog w = .ok (.func fn first cap) w := fun _ _ _ _ => rfl
    clear g1 g2 g3 hz ca3
    have HWQ : Hid (Below w3.heap.size w3 (w3.alloc (.cells #[.func (.func 23) #[] #[.pointer (some ⟨w.heap.size, 0, none⟩)]] 33))) := (Below.refl _ _).alloc (Nat.le_refl _) _
    have HOQ : Hid ((w3.alloc (.cells #[.func (.func 23) #[] #[.pointer (some ⟨w.heap.size, 0, none⟩)]] 33)).heap[w3.heap.size]? = some (.cells #[.func (.func 23) #[] #[.pointer (some ⟨w.heap.size, 0, none⟩)]] 33 (0, 0))) := heap_at_alloc _ _ _ rfl
    go_wp2
    obtain ⟨wq, hwq⟩ : ∃ wq, wq = w3.alloc (.cells #[.func (.func 23) #[] #[.pointer (some ⟨w.heap.size, 0, none⟩)]] 33) := ⟨_, rfl⟩
    rw [← hwq] at HWQ HOQ ⊢
    obtain ⟨O, hO⟩ : ∃ O, O = w3.heap.size := ⟨_, rfl⟩
    rw [← hO] at HOQ ⊢
    have HBQ : Hid (Below w.heap.size w wq) := HB3.out.trans (HWQ.out.mono HB3.out.size)
    have HOM : Hid (wq.ownsRow (w.alloc (.cells #[.slice po m d] 35)).heap.size 48 2 vm (leastV ls ps).length (prC (leastV ls ps))) := own_below HOM3.out HWQ.out
    have HCQ : Hid (Chiefs wq ao po b off b' off' n m c ls ps) := HC3.out.later HWQ.out
    have HVQ : Hid (OverAt wq w.heap.size po b' off' m d ls ps) := HO3.out.later HWQ.out
    obtain ⟨A, hA⟩ : ∃ A, A = w.heap.size := ⟨_, rfl⟩
    rw [← hA] at HVQ HOQ
    have HA : Hid (A = w.heap.size) := hA
    clear hwq hO HB3 HOM3 HC3 HO3 HWQ hA
    go_loopw [9, 43] (fun v i wr => ∃ k : Nat, k ≤ n ∧ i = .int .i64 k ∧ Hid (((ls.take k).flatMap fun a => Act.row ls ps a ls).length ≤ 6 * k) ∧ Hid (NoMut ls ps k) ∧ Hid (PairSt wq wr v ((ls.take k).flatMap fun a => Act.row ls ps a ls))) (fun _ i _ => n - (intOf i).toNat)
    case atStart => exact ⟨0, Nat.zero_le _, rfl, by show _ ≤ _; simp, by show NoMut _ _ _; intro a ha; simp at ha, Below.refl _ _, World.ownsRow_nil _ _ _ _⟩
    case round =>
      obtain ⟨k, hk, rfl, HK6, HNO, HS⟩ := hrel
      by_cases hlt : k < n
      · have hl0 := HCQ.out.ln
        have hkl : k < ls.length := by omega
        have hao := HCQ.out.strs.adr (by omega)
        have f0 := (HCQ.out.strs.later HS.out.bel).cell k hkl
        have HFS := flat_step ls ps hkl
        have HMS : Hid (NoMut2 ls ps ls[k] ls.length → NoMut ls ps (k + 1)) := noMut_step hkl HNO.out
        obtain ⟨x, hx⟩ : ∃ x, x = ls[k] := ⟨_, rfl⟩
        rw [← hx] at f0 HFS HMS
        have HXM : Hid (x ∈ ls) := hx ▸ List.getElem_mem hkl
        have HFS' : Hid ((ls.take (k + 1)).flatMap (fun a => Act.row ls ps a ls) = (ls.take k).flatMap (fun a => Act.row ls ps a ls) ++ Act.row ls ps x ls) := HFS
        obtain ⟨l, hl⟩ : ∃ l, l = (ls.take k).flatMap fun a => Act.row ls ps a ls := ⟨_, rfl⟩
        rw [← hl] at HS HFS' HK6
        obtain ⟨ao', cap', hv⟩ := slice_of HS.out.own
        subst hv
        subst hao
        obtain ⟨X, hX⟩ : ∃ X, X = wr.heap.size := ⟨_, rfl⟩
        obtain ⟨wx, hwx⟩ : ∃ wx, wx = wr.alloc (.cells #[.string x] 9) := ⟨_, rfl⟩
        have hbx : Below wr.heap.size wr wx := by rw [hwx]; exact (Below.refl _ _).alloc (Nat.le_refl _) _
        have hcx : wx.heap[X]? = some (.cells #[.string x] 9 (0, 0)) := by rw [hwx]; exact heap_at_alloc _ _ _ hX
        have HSX : Hid (PairSt wq wx (.slice ao' l.length cap') l) := HS.out.later hbx
        have HCX : Hid (wx.heap[X]? = some (.cells #[.string x] 9 (0, 0))) := hcx
        clear hl hx hl0 HFS hbx hcx
        go_wp2
        rw [← hX, ← hwx]
        clear hX hwx HS f0
        go_loopw [9, 49] (fun v i wy => ∃ j : Nat, j ≤ n ∧ i = .int .i64 j ∧ Hid ((l ++ Act.row ls ps x (ls.take j)).length ≤ 6 * k + j) ∧ Hid (NoMut2 ls ps x j) ∧ Hid (wy.heap[X]? = some (.cells #[.string x] 9 (0, 0))) ∧ Hid (PairSt wq wy v (l ++ Act.row ls ps x (ls.take j)))) (fun _ i _ => n - (intOf i).toNat)
        case atStart => exact ⟨0, Nat.zero_le _, rfl, by show _ ≤ _; simpa [Act.row] using HK6.out, by show NoMut2 _ _ _ _; intro a ha; simp at ha, HCX, by simpa [Act.row] using HSX⟩
        case round =>
          clear HSX HK6 HCX
          obtain ⟨j, hj, rfl, HK6, HN2, HXH, HS⟩ := hrel
          by_cases hltj : j < n
          · have hl0 := HCQ.out.ln
            have hjl : j < ls.length := by omega
            have g0 := (HCQ.out.strs.later HS.out.bel).cell j hjl
            have hrs := row_step ls ps x hjl
            have hns := fun h' => noMut2_step (ps := ps) (x := x) hjl HN2.out h'
            obtain ⟨y, hy⟩ : ∃ y, y = ls[j] := ⟨_, rfl⟩
            rw [← hy] at g0 hrs hns
            have HYM : Hid (y ∈ ls) := hy ▸ List.getElem_mem hjl
            have hl6 := HK6.out
            obtain ⟨l2, hl2⟩ : ∃ l2, l2 = l ++ Act.row ls ps x (ls.take j) := ⟨_, rfl⟩
            rw [← hl2] at HS hl6 HK6
            have HL2 : Hid (l2 = l ++ Act.row ls ps x (ls.take j)) := hl2
            have HRS : Hid (Act.row ls ps x (ls.take (j + 1)) = Act.row ls ps x (ls.take j) ++ (if Act.cover ls ps x y = true then [(x, y)] else [])) := hrs
            have HNS : Hid (Act.mutual2 ls ps x y = false → NoMut2 ls ps x (j + 1)) := hns
            obtain ⟨ao2, cap2, hv⟩ := slice_of HS.out.own
            subst hv
            -- the world in which both are laid
            obtain ⟨Y, hY⟩ : ∃ Y, Y = wr.heap.size := ⟨_, rfl⟩
            obtain ⟨wy, hwy⟩ : ∃ wy, wy = wr.alloc (.cells #[.string y] 9) := ⟨_, rfl⟩
            have hby : Below wr.heap.size wr wy := by rw [hwy]; exact (Below.refl _ _).alloc (Nat.le_refl _) _
            have hYh : wy.heap[Y]? = some (.cells #[.string y] 9 (0, 0)) := by rw [hwy]; exact heap_at_alloc _ _ _ hY
            have HSY : Hid (PairSt wq wy (.slice ao2 l2.length cap2) l2) := HS.out.later hby
            have hXy : wy.heap[X]? = some (.cells #[.string x] 9 (0, 0)) := (hby.block X (lt_of_block HXH.out)).trans HXH.out
            have HXY : Hid (wy.heap[X]? = some (.cells #[.string x] 9 (0, 0))) := hXy
            have HOY : Hid (wy.heap[O]? = some (.cells #[.func (.func 23) #[] #[.pointer (some ⟨A, 0, none⟩)]] 33 (0, 0))) := (HSY.out.bel.block O (lt_of_block HOQ.out)).trans HOQ.out
            have HTY : Hid (TestAt wy A O X Y x y) := by
              refine ⟨?_, by simp [World.cell?, hXy], ?_⟩
              · have := HOY.out; simp [World.cell?, this]
              · simp [World.cell?, hYh]
            have HVY : Hid (OverAt wy A po b' off' m d ls ps) := HVQ.out.later HSY.out.bel
            have HCY : Hid (Chiefs wy (some ⟨b, off, none⟩) po b off b' off' n m c ls ps) := HCQ.out.later HSY.out.bel
            have tO := HTY.out.cO
            have tX := HTY.out.cX
            have tY := HTY.out.cY
            clear hl0 hy hrs hns hl2 hby hYh hXy
            go_upto_region 13 with fail
            rw [← hY, ← hwy]
            clear hY hwy HS g0
            go_wp2_with fail
            refine (over_any HVY x y HXM HYM).mono ?_
            rintro e w5 ⟨rfl, hb5⟩
            obtain ⟨v1, h1⟩ : ∃ v, overV ls ps x y = v := ⟨_, rfl⟩
            rw [h1]
            have HV1 : Hid (overV ls ps x y = v1) := h1
            have HS5 : Hid (PairSt wq w5 (.slice ao2 l2.length cap2) l2) := HSY.out.later hb5
            have HB5 : Hid (w5.heap[X]? = some (.cells #[.string x] 9 (0, 0))) := (hb5.block X (lt_of_block HXY.out)).trans HXY.out
            have HT5 : Hid (TestAt w5 A O X Y x y) := HTY.out.later hb5
            have HV5 : Hid (OverAt w5 A po b' off' m d ls ps) := HVY.out.later hb5
            have HC5 : Hid (Chiefs w5 (some ⟨b, off, none⟩) po b off b' off' n m c ls ps) := HCY.out.later hb5
            have sO := HT5.out.cO
            have sX := HT5.out.cX
            have sY := HT5.out.cY
            clear h1 hb5 HSY HXY HXH HTY HVY HCY HOY tO tX tY
            cases v1 with
            | false =>
              obtain ⟨q1, q2⟩ := over_none HV1.out
              have HR2 : Hid (l ++ Act.row ls ps x (ls.take (j + 1)) = l2) := by
                show _ = _; rw [HRS.out, q1, HL2.out]; simp
              have HM2 : Hid (NoMut2 ls ps x (j + 1)) := HNS.out q2
              clear q1 q2
              go_wp2
              go_roundw
              case rel => exact ⟨j + 1, by omega, by go_num, by rw [HR2.out]; show _ ≤ _; omega, HM2, HB5, by rw [HR2.out]; exact HS5⟩
              case measure => simp [intOf]; omega
            | true =>
              go_wp2_with fail
              refine (over_any HV5 y x HYM HXM).mono ?_
              rintro e w6 ⟨rfl, hb6⟩
              obtain ⟨v2, h2⟩ : ∃ v, overV ls ps y x = v := ⟨_, rfl⟩
              rw [h2]
              have HV2 : Hid (overV ls ps y x = v2) := h2
              have HS6 : Hid (PairSt wq w6 (.slice ao2 l2.length cap2) l2) := HS5.out.later hb6
              have HB6 : Hid (w6.heap[X]? = some (.cells #[.string x] 9 (0, 0))) := (hb6.block X (lt_of_block HB5.out)).trans HB5.out
              have HT6 : Hid (TestAt w6 A O X Y x y) := HT5.out.later hb6
              have HV6 : Hid (OverAt w6 A po b' off' m d ls ps) := HV5.out.later hb6
              have HC6 : Hid (Chiefs w6 (some ⟨b, off, none⟩) po b off b' off' n m c ls ps) := HC5.out.later hb6
              clear h2 hb6 HS5 HB5 HT5 HV5 HC5 sO sX sY
              cases v2 with
              | true =>
                have HBo : Hid (bothB ls ps = true) := (both_iff ls ps).2 (over_both HXM.out HYM.out HV1.out HV2.out)
                have hE : leastE ls ps = 4 := by simp [leastE, HZ.out, HBo.out]
                have hV : leastV ls ps = [] := by simp [leastV, hE]
                have hmz := HEM.out.trans hE
                have hvm0 := HVM0.out
                rw [hV] at hvm0
                subst hmz hvm0
                clear hE hV
                go_wp2
                go_ret
                exact ⟨rfl, HBQ.out.trans (HS6.out.bel.mono HBQ.out.size)⟩
              | false =>
                obtain ⟨q1, q2⟩ := over_one HV1.out HV2.out
                have HM2 : Hid (NoMut2 ls ps x (j + 1)) := HNS.out q2
                obtain ⟨v3, h3⟩ : ∃ v, ls.any (betwV ls ps x y) = v := ⟨_, rfl⟩
                rw [h3] at q1
                have HQ1 : Hid (Act.cover ls ps x y = !v3) := q1
                have HK : Hid (Calls Tryd.prog 24 #[.slice (some ⟨b, off, none⟩) n c, .func (.func 25) #[] #[.pointer (some ⟨O, 0, none⟩), .pointer (some ⟨X, 0, none⟩), .pointer (some ⟨Y, 0, none⟩)]] w6 fun e w' => e = .returned (.bool v3) ∧ Below w6.heap.size w6 w') := by
                  have h := containsFunc2 (some ⟨b, off, none⟩) b off n c HC6.out.ln (by omega) HC6.out.strs HV6.out HT6.out HXM HYM
                  rw [h3] at h
                  exact h
                clear q1 q2 h3 HNS
                go_wp2_with fail
                refine HK.out.mono ?_
                rintro e w7 ⟨rfl, hb7⟩
                have HS7 : Hid (PairSt wq w7 (.slice ao2 l2.length cap2) l2) := HS6.out.later hb7
                have HB7 : Hid (w7.heap[X]? = some (.cells #[.string x] 9 (0, 0))) := (hb7.block X (lt_of_block HB6.out)).trans HB6.out
                have HT7 := HT6.out.later hb7
                have rX := HT7.cX
                have rY := HT7.cY
                clear hb7 HK HS6 HB6 HT6 HV6 HC6 HT7
                cases v3 with
                | true =>
                  have HR2 : Hid (l ++ Act.row ls ps x (ls.take (j + 1)) = l2) := by
                    show _ = _; rw [HRS.out, HQ1.out, HL2.out]; simp
                  go_wp2
                  go_roundw
                  case rel => exact ⟨j + 1, by omega, by go_num, by rw [HR2.out]; show _ ≤ _; omega, HM2, HB7, by rw [HR2.out]; exact HS7⟩
                  case measure => simp [intOf]; omega
                | false =>
                  have HR2 : Hid (l ++ Act.row ls ps x (ls.take (j + 1)) = l2 ++ [(x, y)]) := by
                    show _ = _; rw [HRS.out, HQ1.out, HL2.out]; simp
                  obtain ⟨i0, hi, hz0, hz1, hz2⟩ := info_parts Tryd.infoPair
                  have hbig := HS7.out.bel.size
                  go_wp2_with (at_builtin; refine wpList_append_own _ rfl _ _ 35 rfl wq.heap.size 48 i0 (.agg #[.string ⟨#[]⟩, .string ⟨#[]⟩]) 2 32 Tryd.underlying35 hi hz0 hz1 hz2 rfl (by decide) _ _ _ rfl (World.ownsRow.alloc HS7.out.own _) ⟨w7.heap.size, 0, none⟩ 1 1 [.string x, .string y] rfl rfl ?c1 ?c2 ?c3 ?c4 ?c5 ?_)
                  case c1 => exact two_new _ _ _ _
                  case c2 => intro u hu; simp at hu; rcases hu with rfl | rfl <;> rfl
                  case c3 => unfold maxLen; omega
                  case c4 => omega
                  case c5 => simp; omega
                  · intro v' w8 hown8 hgrow8 _
                    have HN8 : Hid (PairSt wq w8 v' (l2 ++ [(x, y)])) := HS7.out.step hown8 hgrow8
                    have HB8 : Hid (w8.heap[X]? = some (.cells #[.string x] 9 (0, 0))) := by
                      show _ = _
                      rw [hgrow8.block X (by have := lt_of_block HB7.out; simp; omega) (own_not HS7.out.own HB7.out)]
                      exact heap_past_alloc HB7.out
                    clear hown8 hgrow8
                    go_wp2
                    go_roundw
                    case rel => exact ⟨j + 1, by omega, by go_num, by rw [HR2.out]; show _ ≤ _; simp; omega, HM2, HB8, by rw [HR2.out]; exact HN8⟩
                    case measure => simp [intOf]; omega
          · have HT : Hid (ls.take j = ls) := List.take_of_length_le (by have := HCQ.out.ln; omega)
            have HM3 : Hid (NoMut ls ps (k + 1)) := HMS.out (by have := HN2.out; rwa [show j = ls.length by have := HCQ.out.ln; omega] at this)
            have HS3 : Hid (PairSt wq wr u9 ((ls.take (k + 1)).flatMap fun a => Act.row ls ps a ls)) := by
              have := HS.out
              rw [HT.out, ← HFS'.out] at this
              exact this
            have HK3 : Hid (((ls.take (k + 1)).flatMap fun a => Act.row ls ps a ls).length ≤ 6 * (k + 1)) := by
              have := HK6.out
              rw [HT.out, ← HFS'.out] at this
              show _ ≤ _; omega
            go_wp2
            go_roundw
            case rel => exact ⟨k + 1, by omega, by go_num, HK3, HM3, HS3⟩
            case measure => simp [intOf]; omega
      · have HT : Hid (ls.take k = ls) := List.take_of_length_le (by have := HCQ.out.ln; omega)
        have HBo : Hid (bothB ls ps = false) := noMut_end (by have := HNO.out; rwa [show k = ls.length by have := HCQ.out.ln; omega] at this)
        have hE : leastE ls ps = 0 := by simp [leastE, HZ.out, HBo.out]
        have hV : leastV ls ps = Act.leastF ls ps := by simp [leastV, hE]
        have hmz := HEM.out.trans hE
        subst hmz
        have HSF : Hid (PairSt wq wr u9 (Act.leastF ls ps)) := by
          have := HS.out
          rw [HT.out] at this
          exact this
        have hml : (Act.leastF ls ps).length ≤ 1000 := by
          have := HK6.out
          rw [HT.out] at this
          have e : (ls.flatMap fun a => Act.row ls ps a ls) = Act.leastF ls ps := rfl
          rw [e] at this
          omega
        rw [hV] at HOM
        obtain ⟨aw, gw, cw, hvw, _, _, ssw⟩ := prs_of_own HSF.out.own
        obtain ⟨am, gm, cm, hvm, _, _, ssm⟩ := prs_of_own (own_below HOM.out HSF.out.bel)
        clear HVM0
        subst hvw hvm
        obtain ⟨NN, hNN⟩ : ∃ NN, NN = (Act.leastF ls ps).length := ⟨_, rfl⟩
        have HKE : Hid (Calls Tryd.prog 26 #[.slice am NN cm, .slice aw NN cw] wr fun e w' => e = .returned (.bool true) ∧ Below wr.heap.size wr w') := eqPr am aw gm 0 gw 0 NN cm cw (Act.leastF ls ps) wr hNN (by rw [hNN]; exact hml) ssm ssw
        have HBR : Hid (Below w.heap.size w wr) := HBQ.out.trans (HSF.out.bel.mono HBQ.out.size)
        rw [← hNN]
        clear hml ssw ssm hE hV HOM HS HSF hNN
        go_wp2_with fail
        refine HKE.out.mono ?_
        rintro e w7 ⟨rfl, hb7⟩
        go_wp2
        go_ret
        exact ⟨rfl, HBR.out.trans (hb7.mono HBR.out.size)⟩
  · have hz : ¬ checkF ls ps = 0 := fun h => h0 (HE0.out.trans h)
    have z1 : leastE ls ps = checkF ls ps := by simp [leastE, hz]
    have hv1 : leastV ls ps = [] := by simp [leastV, z1, hz]
    have hmz : em = e0 := (HEM.out.trans z1).trans HE0.out.symm
    have hvm0 := HVM0.out
    rw [hv1] at hvm0
    have hb : (e0 == 0) = false := by simp [h0]
    have hbn : (e0 != 0) = true := by simp [h0]
    have hbe : (e0 == e0) = true := by simp
    subst hmz hvm0
    clear z1 hv1 HEM hz HOM3
    go_wp2_with fail
    refine (chiefed_any _).mono ?_
    rintro e w4 ⟨rfl, hb4⟩
    go_wp2
    go_ret
    exact ⟨rfl, HB3.out.trans (hb4.mono HB3.out.size)⟩
end Go.Proofs.YtilapnfdijjobaaDoor
