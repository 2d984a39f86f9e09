/- Contract of label.Reads. -/
import Derived.Test.YtjfiakoningmkaaGreatDoorGaLabW
namespace Go.Proofs.YtjfiakoningmkaaGreatDoor
open Go.RowKit Go.Maps

theorem hides_any (B : Nat) (ls : List ByteArray) (ps : List (ByteArray × ByteArray)) (ob cb : Nat) (p : Pol) (v : Value) (who : ByteArray) (w : World) (h : Ord w B (Act.acts ls ps)) (hv : ReadersAt w v p.2) (hz : SzP p) (hw : who.size ≤ maxLen)
    (c0 : w.cell? ⟨ob, 0, none⟩ = some (.map (some B))) (c1 : w.cell? ⟨cb, 0, none⟩ = some (.string who)) :
    Calls Tryz.prog 51 #[.agg #[.string p.1, v], .pointer (some ⟨ob, 0, none⟩), .pointer (some ⟨cb, 0, none⟩)] w fun e w' => e = .returned (.bool (!Lab.letsB ls ps p who)) ∧ Below w.heap.size w w' := by
  have hb0 : Below w.heap.size w (w.alloc (.cells #[.string p.1, v] 37)) := (Below.refl _ _).alloc (Nat.le_refl _) _
  have l0 : ob < w.heap.size := World.block_lt_of_cell? w _ c0
  have l1 : cb < w.heap.size := World.block_lt_of_cell? w _ c1
  have HK : Hid (Calls Tryz.prog 52 #[.map (some B), .agg #[.string p.1, v], .string who] (w.alloc (.cells #[.string p.1, v] 37)) fun e w' => e = .returned (.bool (Lab.letsB ls ps p who)) ∧ Below (w.alloc (.cells #[.string p.1, v] 37)).heap.size (w.alloc (.cells #[.string p.1, v] 37)) w') := lets_any B ls ps p v who _ (h.later hb0) (hv.later hb0) hz hw
  have HB : Hid (Below w.heap.size w (w.alloc (.cells #[.string p.1, v] 37))) := hb0
  clear h hv hz hb0 hw
  obtain ⟨t, ht⟩ : ∃ t, t = Lab.letsB ls ps p who := ⟨_, rfl⟩
  rw [← ht] at HK ⊢
  clear ht
  go_enter Tryz.func51, Tryz.ntmps51
  go_wp2_with fail
  refine HK.out.mono ?_
  rintro e w1 ⟨rfl, hb1⟩
  go_wp2
  go_ret
  exact ⟨rfl, HB.out.trans (hb1.mono (by simp))⟩

/- What Reads' loop holds: the order's box and block stay, the row is owned. -/
structure ReadSt (w wr : World) (v : Value) (l : List ByteArray) (ob B : Nat) (ls : List ByteArray) (ps : List (ByteArray × ByteArray)) : Prop where
  bel : Below w.heap.size w wr
  ord : Ord wr B (Act.acts ls ps)
  box : wr.heap[ob]? = some (.cells #[.map (some B)] 45 (0, 0))
  own : wr.ownsRow (ob + 1) 9 1 v l.length (strC l)
  lowB : B < ob
  lowO : w.heap.size ≤ B
theorem ReadSt.later {w wr w1 : World} {v : Value} {l : List ByteArray} {ob B : Nat} {ls : List ByteArray} {ps : List (ByteArray × ByteArray)} (h : ReadSt w wr v l ob B ls ps) (hb : Below wr.heap.size wr w1) : ReadSt w w1 v l ob B ls ps :=
  ⟨h.bel.trans (hb.mono h.bel.size), h.ord.later hb, (hb.block _ (lt_of_block h.box)).trans h.box, own_below h.own hb, h.lowB, h.lowO⟩
theorem ReadSt.step {w w1 w2 : World} {v v' : Value} {l : List ByteArray} {ob B : Nat} {ls : List ByteArray} {ps : List (ByteArray × ByteArray)} {s : ByteArray} {o : Obj} (h : ReadSt w w1 v l ob B ls ps) (hown : w2.ownsRow (ob + 1) 9 1 v' (l.length + 1) (strC l ++ [.string s])) (hgr : (w1.alloc o).grownBy w2 v.ownBlock) : ReadSt w w2 v' (l ++ [s]) ob B ls ps := by
  have hz : (w1.alloc o).heap.size = w1.heap.size + 1 := by simp
  have hne : ∀ k, some k = v.ownBlock → ob + 1 ≤ k := fun k he => (h.own.lt _ he.symm).1
  have lb := lt_of_block h.box
  have ho : Ord (w1.alloc o) B (Act.acts ls ps) := h.ord.later ((Below.refl _ _).alloc (Nat.le_refl _) _)
  refine ⟨?_, ?_, ?_, by simpa [strC] using hown, h.lowB, h.lowO⟩
  · exact (h.bel.alloc h.bel.size _).grown hgr (by have := h.bel.size; omega) (fun k he => by have := hne k he.symm; have := h.lowB; have := h.lowO; omega)
  · obtain ⟨n, D, h1, h2⟩ := ho
    exact ⟨n, D, h1.kept hgr (by
      intro he
      have := hne _ he
      have := h.lowB
      omega), h2⟩
  · rw [hgr.block ob (by omega) (fun he => by have := hne _ he; omega)]
    exact heap_past_alloc h.box

theorem reads_step {ls : List ByteArray} {ps : List (ByteArray × ByteArray)} {x : List Pol} {k : Nat} (hk : k < ls.length) : (ls.take (k + 1)).filter (fun c => Lab.readsB ls ps x c) = (ls.take k).filter (fun c => Lab.readsB ls ps x c) ++ (if Lab.readsB ls ps x ls[k] = true then [ls[k]] else []) := by
  rw [List.take_succ_eq_append_getElem hk, List.filter_append]
  congr 1
  cases h : Lab.readsB ls ps x ls[k] <;> simp [h]

set_option maxRecDepth 100000 in
set_option maxHeartbeats 2000000 in
theorem readsC (ao po lo : Option Addr) (b off b' off' n m c d lb loff ln lc : Nat) (ls : List ByteArray) (ps : List (ByteArray × ByteArray)) (x : List Pol) (w : World) (hc : Chiefs w ao po b off b' off' n m c ls ps) (hx : LabAt w lo lb loff ln lc x) :
    Calls Tryz.prog 25 #[.slice ao n c, .slice po m d, .slice lo ln lc] w fun e w' => ∃ v, e = .returned (.tuple #[v, .int .i64 (checkL ls ps x)]) ∧ w'.ownsRow w.heap.size 9 1 v (readsV ls ps x).length (strC (readsV ls ps x)) ∧ Below w.heap.size w w' := by
  have hk0 := checkLab ao po lo b off b' off' n m c d lb loff ln lc ls ps x w hc hx
  have HC : Hid (Chiefs w ao po b off b' off' n m c ls ps) := hc
  have HX : Hid (LabAt w lo lb loff ln lc x) := hx
  clear hc hx
  by_cases h0 : checkL ls ps x = 0
  · have HV : Hid (readsV ls ps x = Lab.readsF ls ps x) := by show _ = _; simp [readsV, h0]
    have HZ : Hid (checkF ls ps = 0) := (checkL_ok h0).1
    have HSX : Hid (∀ p ∈ x, SzP p) := szp_of h0
    have HLX : Hid (ln ≤ 1000) := by have h1 := (checkL_ok h0).2.1; have h2 := HX.out.ln; show _ ≤ _; omega
    obtain ⟨g1, _, _, g4⟩ := right_of HZ.out
    have HNM : Hid (∀ s ∈ ls, Lex.nameF s.data.toList = true) := g4
    have hn6 : n ≤ 6 := by have := HC.out.ln; omega
    rw [HV.out, h0]
    rw [h0] at hk0
    clear h0 HV g1 g4
    have hmf : ∀ (fn : Fn) (first cap : Array Value) (w : World), (Instr.makeFunc fn first cap).run Tryz.prog w = .ok (.func fn first cap) w := fun _ _ _ _ => rfl
    go_enter Tryz.func25, Tryz.ntmps25
    go_wp2_with fail
    refine hk0.mono ?_
    rintro e w1 ⟨rfl, hb1⟩
    have HB1 : Hid (Below w.heap.size w w1) := hb1
    have hwh := wholeL ao po b off b' off' n m c d ls ps w1 (HC.out.later hb1) HZ.out
    clear hb1 hk0
    go_wp2_with fail
    refine hwh.mono ?_
    rintro e w2 ⟨rfl, hord, hb2⟩
    obtain ⟨ob, hob⟩ : ∃ ob, ob = w2.heap.size := ⟨_, rfl⟩
    obtain ⟨wz, hwz⟩ : ∃ wz, wz = w2.alloc (.cells #[.map (some w1.heap.size)] 45) := ⟨_, rfl⟩
    have HS : Hid (ReadSt w wz (.slice none 0 0) [] ob w1.heap.size ls ps) := by
      have hb3 : Below w2.heap.size w2 wz := by rw [hwz]; exact (Below.refl _ _).alloc (Nat.le_refl _) _
      have hbb := HB1.out.trans (hb2.mono HB1.out.size)
      refine ⟨hbb.trans (hb3.mono hbb.size), hord.later hb3, by rw [hwz, hob]; exact heap_at_alloc _ _ _ rfl, World.ownsRow_nil _ _ _ _, ?_, HB1.out.size⟩
      rw [hob]; exact hord.lt
    obtain ⟨B, hB⟩ : ∃ B, B = w1.heap.size := ⟨_, rfl⟩
    have hobz : ob < wz.heap.size := lt_of_block HS.out.box
    go_wp2_with fail
    rw [← hwz, ← hob]
    rw [← hB] at HS
    clear hwz hob hB hb2 hord hwh HB1
    go_loopw [10, 26] (fun v i wr => ∃ k : Nat, k ≤ n ∧ i = .int .i64 k ∧ Hid (ReadSt w wr v ((ls.take k).filter fun c => Lab.readsB ls ps x c) ob B ls ps)) (fun _ i _ => n - (intOf i).toNat)
    case atStart => exact ⟨0, Nat.zero_le _, rfl, HS⟩
    case round =>
      clear HS
      obtain ⟨k, hk, rfl, HS⟩ := hrel
      by_cases hlt : k < n
      · have hl0 := HC.out.ln
        have hkl : k < ls.length := by omega
        have hao := HC.out.strs.adr (by omega)
        have f0 := (HC.out.strs.later HS.out.bel).cell k hkl
        have hst := reads_step (ps := ps) (x := x) hkl
        have hy12 := name_short (HNM.out _ (List.getElem_mem hkl))
        obtain ⟨y, hy⟩ : ∃ y, y = ls[k] := ⟨_, rfl⟩
        rw [← hy] at f0 hst hy12
        have HY12 : Hid (y.size ≤ maxLen) := by show _ ≤ _; unfold maxLen; omega
        obtain ⟨l, hl⟩ : ∃ l, l = (ls.take k).filter fun c => Lab.readsB ls ps x c := ⟨_, rfl⟩
        rw [← hl] at HS hst
        have hll : l.length ≤ 6 := by
          rw [hl]
          have h1 := List.length_filter_le (fun c => Lab.readsB ls ps x c) (ls.take k)
          have h2 := List.length_take (i := k) (l := ls)
          omega
        obtain ⟨ao', cap', hv⟩ := slice_of HS.out.own
        subst hv
        obtain ⟨wy, hwy⟩ : ∃ wy, wy = wr.alloc (.cells #[.string y] 9) := ⟨_, rfl⟩
        have hby : Below wr.heap.size wr wy := by rw [hwy]; exact (Below.refl _ _).alloc (Nat.le_refl _) _
        have HSY : Hid (ReadSt w wy (.slice ao' l.length cap') l ob B ls ps) := HS.out.later hby
        have k0 := HSY.out.box
        have k1 : wy.heap[wr.heap.size]? = some (.cells #[.string y] 9 (0, 0)) := by rw [hwy]; exact heap_at_alloc _ _ _ rfl
        have HK1 : Hid (∀ W, Below wy.heap.size wy W → W.cell? ⟨wr.heap.size, 0, none⟩ = some (.string y)) := fun W hW => by have e := (hW.block _ (lt_of_block k1)).trans k1; simp [World.cell?, e]
        have HFN : Hid (Calls Tryz.prog 53 #[.slice lo ln lc, .func (.func 51) #[] #[.pointer (some ⟨ob, 0, none⟩), .pointer (some ⟨wr.heap.size, 0, none⟩)]] wy fun e w' => e = .returned (.bool (x.any fun p => !Lab.letsB ls ps p y)) ∧ Below wy.heap.size wy w') :=
          containsFuncP _ _ (enters_of Tryz.func51 (by kernel_rfl) rfl) (fun p => !Lab.letsB ls ps p y) lo lb loff ln lc x wy HX.out.ln HLX.out (HX.out.pols.later HSY.out.bel) (fun W p v hp hv hW =>
            hides_any B ls ps ob wr.heap.size p v y W (HSY.out.ord.later hW) hv (HSX.out p hp) HY12.out
              (by have e := (hW.block _ (lt_of_block k0)).trans k0; simp [World.cell?, e]) (HK1.out W hW))
        have HWY : Hid (wy = wr.alloc (.cells #[.string y] 9)) := hwy
        have HBY : Hid (Below wr.heap.size wr wy) := hby
        have hlw : wr.heap.size < wy.heap.size := lt_of_block k1
        clear k0 k1 hl hy hl0 hwy hby
        subst hao
        have hrb : Lab.readsB ls ps x y = !(x.any fun p => !Lab.letsB ls ps p y) := rfl
        obtain ⟨t, ht⟩ : ∃ t, t = x.any fun p => !Lab.letsB ls ps p y := ⟨_, rfl⟩
        rw [← ht] at hrb HFN
        rw [hrb] at hst
        clear ht hrb
        go_wp2_with fail
        rw [← HWY.out]
        refine HFN.out.mono ?_
        rintro e w3 ⟨rfl, hb3⟩
        have c3 := HK1.out w3 hb3
        have HS3 : Hid (ReadSt w w3 (.slice ao' l.length cap') l ob B ls ps) := HSY.out.later hb3
        have hlw3 : wr.heap.size < w3.heap.size := Nat.lt_of_lt_of_le hlw hb3.size
        clear hb3 HFN HWY HBY HSY HS HK1
        cases t
        · simp only [Bool.not_false, if_true] at hst
          have HST : Hid ((ls.take (k + 1)).filter (fun c => Lab.readsB ls ps x c) = l ++ [y]) := hst
          clear hst
          obtain ⟨i0, hi, hz0, hz1, hz2⟩ := info_parts Tryz.infoStr
          go_wp2_with fail
          refine (cloneC y _ (by omega)).mono ?_
          rintro e w4 ⟨rfl, hb4⟩
          have HS4 : Hid (ReadSt w w4 (.slice ao' l.length cap') l ob B ls ps) := HS3.out.later hb4
          have HO : Hid (w4.ownsRow (ob + 1) 9 1 (.slice ao' l.length cap') l.length (strC l)) := HS4.out.own
          have hbig : ob + 1 ≤ w4.heap.size := lt_of_block HS4.out.box
          clear hb4 HS3
          go_wp2_with (at_builtin; refine wpList_append_own _ rfl _ _ 22 rfl (ob + 1) 9 i0 (.string ⟨#[]⟩) 1 16 Tryz.underlying22 hi hz0 hz1 hz2 rfl (by decide) _ _ _ rfl (World.ownsRow.alloc HO.out _) ⟨w4.heap.size, 0, none⟩ 1 1 [.string y] rfl rfl ?c1 ?c2 ?c3 ?c4 ?c5 ?_)
          case c1 => exact one_new _ _ _
          case c2 => intro u hu; simp at hu; subst hu; rfl
          case c3 => unfold maxLen; omega
          case c4 => omega
          case c5 => simp; omega
          · intro v' w5 hown5 hgrow5 _
            have HN : Hid (ReadSt w w5 v' (l ++ [y]) ob B ls ps) := HS4.out.step hown5 hgrow5
            clear hown5 hgrow5
            go_wp2
            go_roundw
            case rel => exact ⟨k + 1, by omega, by go_num, by rw [HST.out]; exact HN⟩
            case measure => simp [intOf]; omega
        · simp only [Bool.not_true, Bool.false_eq_true, if_false, List.append_nil] at hst
          have HST : Hid ((ls.take (k + 1)).filter (fun c => Lab.readsB ls ps x c) = l) := hst
          clear hst
          go_wp2
          go_roundw
          case rel => exact ⟨k + 1, by omega, by go_num, by rw [HST.out]; exact HS3⟩
          case measure => simp [intOf]; omega
      · have HF : Hid ((ls.take k).filter (fun c => Lab.readsB ls ps x c) = Lab.readsF ls ps x) := by
          show _ = _
          rw [List.take_of_length_le (by have := HC.out.ln; omega)]; rfl
        go_wp2
        go_ret2
        refine ⟨_, rfl, ?_, HS.out.bel⟩
        rw [← HF.out]
        exact ownsRow_le' HS.out.own (by have := HS.out.lowB; have := HS.out.lowO; omega)
  · have HV : Hid (readsV ls ps x = []) := by show _ = _; simp [readsV, h0]
    rw [HV.out]
    obtain ⟨e0, he0⟩ : ∃ e0, e0 = checkL ls ps x := ⟨_, rfl⟩
    rw [← he0] at hk0 h0 ⊢
    have hb : (e0 == 0) = false := by simp [h0]
    have hb' : (e0 != 0) = true := by simp [h0]
    clear HV h0 he0
    go_enter Tryz.func25, Tryz.ntmps25
    go_wp2_with fail
    refine hk0.mono ?_
    rintro e w1 ⟨rfl, hb1⟩
    go_wp2
    go_ret2
    exact ⟨_, rfl, World.ownsRow_nil _ _ _ _, hb1⟩
end Go.Proofs.YtjfiakoningmkaaGreatDoor
