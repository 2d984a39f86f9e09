/- Contracts of the document's own Lets, covers, MayGo, ReadersOf, CheckLabel. Contract of the document's own CheckLabel. Contracts of the document's own MayGo and ReadersOf. -/
import Derived.Test.YtpbknhhjfhpkmaaGreatDoorGaActs
import Derived.Test.YtpbknhhjfhpkmaaGreatDoorGaLabW
import Derived.Lib.AppendZeros
namespace Go.Proofs.YtpbknhhjfhpkmaaGreatDoor
open Go.RowKit

/- The pairs that the document's functions take. -/
structure Pairs (w : World) (po : Option Addr) (b off m : Nat) (ps : List (ByteArray × ByteArray)) : Prop where
  lm : m = ps.length
  few : m ≤ 10
  prs : Prs w po b off ps
theorem Pairs.later {w w' : World} {po : Option Addr} {b off m : Nat} {ps : List (ByteArray × ByteArray)} (h : Pairs w po b off m ps) (hb : Below w.heap.size w w') : Pairs w' po b off m ps := ⟨h.lm, h.few, h.prs.later hb⟩

theorem actsB (po : Option Addr) (b off m d : Nat) (ls : List ByteArray) (ps : List (ByteArray × ByteArray)) (x y : ByteArray) (w : World) (hp : Pairs w po b off m ps) (hr : Act.Right ls ps) (hx : x ∈ ls) (hy : y ∈ ls) :
    Calls Tryz.prog 64 #[.slice po m d, .string x, .string y] w fun e w' => e = .returned (.bool (Act.acts ls ps x y)) ∧ Below w.heap.size w w' := by
  refine (actsR_any po b off m d ps x y w hp.lm hp.few hp.prs).mono ?_
  rintro e w' ⟨r, rfl, h1, h2⟩
  have e : r = Act.acts ls ps x y := by
    rw [Bool.eq_iff_iff, h1, Act.acts_iff hr hx hy]
  rw [e]
  exact ⟨rfl, h2⟩

theorem append_noneS (base xo : Option Addr) (n c xc : Nat) (ty : TypeId) (w : World) (hn : n ≤ c) : (Builtin.append_ #[22, 22] ty #[.slice base n c, .slice xo 0 xc]).run Tryz.prog w = .ok (.slice base n c) w := by
  cases base <;> cases xo <;> simp [Builtin.append_, run_underlying Tryz.underlying22, go_sem, hn, Builtin.firstCells, Builtin.lenOf, storeCells]
theorem strC_one (l : List ByteArray) : ∀ u ∈ strC l, u.oneCell' = true := by
  intro u hu
  simp only [strC, List.mem_map] at hu
  obtain ⟨s, _, rfl⟩ := hu
  rfl
/- append of a row to a new row of one. -/
theorem one_more (o : ByteArray) (v : Value) (rs : List ByteArray) (N : Nat) (ty : TypeId) (w : World) (h0 : w.heap[N]? = some (.cells #[.string o] 9 (0, 0))) (hv : ReadersAt w v rs) (h6 : rs.length ≤ 1000) :
    ∃ v' w', (Builtin.append_ #[22, 22] ty #[.slice (some ⟨N, 0, none⟩) 1 1, v]).run Tryz.prog w = .ok v' w' ∧ w'.ownsRow N 9 1 v' (o :: rs).length (strC (o :: rs)) ∧ w.grownBy w' (some N) := by
  obtain ⟨i0, hi, hz0, hz1, hz2⟩ := info_parts Tryz.infoStr
  have hown : w.ownsRow N 9 1 (.slice (some ⟨N, 0, none⟩) 1 1) 1 [.string o] := ⟨rfl, .inr ⟨N, 1, #[.string o], rfl, Nat.le_refl _, h0, Nat.le_refl _, by unfold maxLen; omega, rfl, rfl⟩⟩
  obtain ⟨ro, rb, roff, rc, rfl, _, _, h4⟩ := hv
  by_cases hr : rs.length = 0
  · have e : rs = [] := List.length_eq_zero_iff.1 hr
    subst e
    exact ⟨_, _, append_noneS _ _ _ _ _ _ _ (Nat.le_refl _), hown, ⟨rfl, rfl, rfl, Nat.le_refl _, fun _ _ _ => rfl⟩⟩
  · have ha := h4.adr (by omega)
    subst ha
    obtain ⟨v', w', h1, h2, h3, _⟩ := run_append_own (P := Tryz.prog) w N 22 ty 9 i0 (.string ⟨#[]⟩) 1 16 Tryz.underlying22 hi hz0 hz1 hz2 rfl (by decide) _ _ _ hown ⟨rb, roff, none⟩ rs.length rc (strC rs) (by simp [strC]) (by
      intro j u hu
      obtain ⟨hj, e⟩ := List.getElem?_eq_some_iff.1 hu
      simp only [strC, List.length_map] at hj
      have := h4.cell j hj
      have e1 : (⟨rb, roff, none⟩ : Addr).add j = ⟨rb, roff + j, none⟩ := by simp [Addr.add]
      rw [e1, this, ← e]
      simp [strC]) (strC_one rs) (by unfold maxLen; omega) (by omega) (Nat.le_of_lt (lt_of_block h0))
    refine ⟨v', w', h1, ?_, h3⟩
    have e : (o :: rs).length = 1 + rs.length := by simp; omega
    rw [e]
    exact h2

theorem Of.mem {ls : List ByteArray} {p : Pol} (h : Lab.Of ls p) : ∀ s ∈ p.1 :: p.2, s ∈ ls := by
  intro s hs
  rcases List.mem_cons.1 hs with e | e
  · rw [e]; exact h.1
  · exact h.2 s e
theorem letsB_cons (ls : List ByteArray) (ps : List (ByteArray × ByteArray)) (o : ByteArray) (rs : List ByteArray) (s : ByteArray) : Lab.letsB ls ps (o, rs) s = (o :: rs).any fun r => Act.acts ls ps s r := by simp [Lab.letsB]

set_option maxRecDepth 100000 in
set_option maxHeartbeats 2000000 in
theorem letsR (po : Option Addr) (b off m d : Nat) (ls : List ByteArray) (ps : List (ByteArray × ByteArray)) (p : Pol) (v : Value) (s : ByteArray) (w : World) (hp : Pairs w po b off m ps) (hr : Act.Right ls ps) (hof : Lab.Of ls p) (hs : s ∈ ls) (hv : ReadersAt w v p.2) (h6 : p.2.length ≤ 1000) :
    Calls Tryz.prog 65 #[.slice po m d, .agg #[.string p.1, v], .string s] w fun e w' => e = .returned (.bool (Lab.letsB ls ps p s)) ∧ Below w.heap.size w w' := by
  obtain ⟨o, rs⟩ := p
  simp only at hv h6 ⊢
  obtain ⟨wz, hwz⟩ : ∃ wz, wz = (w.alloc (.cells #[.string o, v] 63)).alloc (.cells #[.string o] 9) := ⟨_, rfl⟩
  have hbz : Below w.heap.size w wz := by rw [hwz]; exact ((Below.refl _ _).alloc (Nat.le_refl _) _).alloc (by simp) _
  have k1 : wz.heap[w.heap.size + 1]? = some (.cells #[.string o] 9 (0, 0)) := by rw [hwz]; exact heap_at_alloc _ _ _ (by simp)
  obtain ⟨v', w', hrun, hown, hgr⟩ := one_more o v rs (w.heap.size + 1) 22 wz k1 (hv.later hbz) h6
  have hbw : Below w.heap.size w w' := hbz.grown hgr hbz.size (fun j hj => by simp at hj; omega)
  obtain ⟨ao, g, cap, hv', _, _, hss⟩ := strs_of_own hown
  subst hv'
  rw [hwz] at hrun
  have HRUN : Hid ((Builtin.append_ #[22, 22] 22 #[.slice (some ⟨w.heap.size + 1, 0, none⟩) 1 1, v]).run Tryz.prog ((w.alloc (.cells #[.string o, v] 63)).alloc (.cells #[.string o] 9)) = .ok (.slice ao (o :: rs).length cap) w') := hrun
  have HBW : Hid (Below w.heap.size w w') := hbw
  have HSS : Hid (Strs w' ao g 0 (o :: rs)) := hss
  have HE : Hid (Lab.letsB ls ps (o, rs) s = (o :: rs).any fun r => Act.acts ls ps s r) := letsB_cons ls ps o rs s
  have HMEM : Hid (∀ t ∈ o :: rs, t ∈ ls) := Of.mem (p := (o, rs)) hof
  have HP : Hid (Pairs w po b off m ps) := hp
  have HR : Hid (Act.Right ls ps) := hr
  have HS : Hid (s ∈ ls) := hs
  obtain ⟨q, hq⟩ : ∃ q, q = (o :: rs).length := ⟨_, rfl⟩
  rw [← hq] at HRUN
  have HQ : Hid (q = (o :: rs).length) := hq
  have hq1 : q ≤ 1001 := by rw [hq]; simp; omega
  obtain ⟨row, hrow⟩ : ∃ row, row = o :: rs := ⟨_, rfl⟩
  rw [← hrow] at HSS HE HMEM HQ
  clear hwz hbz k1 hrun hown hgr hbw hss hof hp hr hs hv h6 hq hrow
  rw [HE.out]
  clear HE
  go_enter Tryz.func65, Tryz.ntmps65
  go_wp2_with (at_builtin; refine Lib.wpList_append_run _ rfl _ _ _ _ rfl _ _ rfl rfl _ _ HRUN.out ?_)
  clear HRUN
  go_loopw [16] (fun i wr => ∃ k : Nat, k ≤ q ∧ i = .int .i64 k ∧ Hid (∀ t ∈ row.take k, Act.acts ls ps s t = false) ∧ Hid (Below w'.heap.size w' wr)) (fun i _ => q - (intOf i).toNat)
  case atStart => exact ⟨0, Nat.zero_le _, rfl, by show ∀ t ∈ _, _; simp, Below.refl _ _⟩
  case round =>
    obtain ⟨k, hk, rfl, HN, HB⟩ := hrel
    have HBB : Hid (Below w.heap.size w wr) := HBW.out.trans (HB.out.mono HBW.out.size)
    by_cases hlt : k < q
    · have hkl : k < row.length := by have := HQ.out; omega
      have hst := HSS.out.later HB.out
      have hao := hst.adr (by omega)
      have f0 := hst.cell k hkl
      rw [Nat.zero_add] at f0
      obtain ⟨t, ht⟩ : ∃ t, t = row[k] := ⟨_, rfl⟩
      rw [← ht] at f0
      have HT : Hid (t = row[k]) := ht
      have hcall := actsB po b off m d ls ps s t wr (HP.out.later HBB.out) HR.out HS.out (HMEM.out t (ht ▸ List.getElem_mem hkl))
      clear hst ht
      subst hao
      cases hq2 : Act.acts ls ps s t with
      | true =>
        rw [hq2] at hcall
        have HF : Hid ((row.any fun r => Act.acts ls ps s r) = true) := List.any_eq_true.2 ⟨_, List.getElem_mem hkl, by rw [← HT.out]; exact hq2⟩
        clear hq2
        go_wp2_with fail
        refine hcall.mono ?_
        rintro e w1 ⟨rfl, hb1⟩
        go_wp2
        go_ret
        refine ⟨?_, HBB.out.trans (hb1.mono HBB.out.size)⟩
        rw [HF.out]; rfl
      | false =>
        rw [hq2] at hcall
        have HF : Hid (∀ t ∈ row.take (k + 1), Act.acts ls ps s t = false) := none_step (t := fun t => Act.acts ls ps s t) hkl HN.out (by rw [← HT.out]; exact hq2)
        clear hq2
        go_wp2_with fail
        refine hcall.mono ?_
        rintro e w1 ⟨rfl, hb1⟩
        have HB1 : Hid (Below w'.heap.size w' w1) := HB.out.trans (hb1.mono HB.out.size)
        clear hb1
        go_wp2
        go_roundw
        case rel => exact ⟨k + 1, by omega, by go_num, HF, HB1⟩
        case measure => simp [intOf]; omega
    · have HF : Hid ((row.any fun r => Act.acts ls ps s r) = false) := by
        have h := HN.out
        rw [List.take_of_length_le (by have := HQ.out; omega)] at h
        exact List.any_eq_false.2 fun t ht => by simp [h t ht]
      go_wp2
      go_ret
      refine ⟨?_, HBB.out⟩
      rw [HF.out]; rfl

set_option maxRecDepth 100000 in
set_option maxHeartbeats 2000000 in
theorem coversR (po : Option Addr) (b off m d : Nat) (ls : List ByteArray) (ps : List (ByteArray × ByteArray)) (q p : Pol) (u v : Value) (w : World) (hp : Pairs w po b off m ps) (hr : Act.Right ls ps) (hq : Lab.Of ls q) (hof : Lab.Of ls p) (hu : ReadersAt w u q.2) (hv : ReadersAt w v p.2) (h6 : q.2.length ≤ 1000) (h7 : p.2.length ≤ 1000) :
    Calls Tryz.prog 29 #[.slice po m d, .agg #[.string q.1, u], .agg #[.string p.1, v]] w fun e w' => e = .returned (.bool (Lab.coversB ls ps q p)) ∧ Below w.heap.size w w' := by
  obtain ⟨o, rs⟩ := q
  obtain ⟨wz, hwz⟩ : ∃ wz, wz = (w.alloc (.cells #[.string o, u] 63)).alloc (.cells #[.string p.1, v] 63) := ⟨_, rfl⟩
  have hbz : Below w.heap.size w wz := by rw [hwz]; exact ((Below.refl _ _).alloc (Nat.le_refl _) _).alloc (by simp) _
  have k0 : wz.heap[w.heap.size]? = some (.cells #[.string o, u] 63 (0, 0)) := by rw [hwz]; exact heap_past_alloc (heap_at_alloc _ _ _ rfl)
  have k1 : wz.heap[w.heap.size + 1]? = some (.cells #[.string p.1, v] 63 (0, 0)) := by rw [hwz]; exact heap_at_alloc _ _ _ (by simp)
  have hc1 := actsB po b off m d ls ps o p.1 wz (hp.later hbz) hr hq.1 hof.1
  have HK0 : Hid (∀ W, Below wz.heap.size wz W → W.heap[w.heap.size]? = some (.cells #[.string o, u] 63 (0, 0))) := fun W hW => (hW.block _ (lt_of_block k0)).trans k0
  have HK1 : Hid (∀ W, Below wz.heap.size wz W → W.heap[w.heap.size + 1]? = some (.cells #[.string p.1, v] 63 (0, 0))) := fun W hW => (hW.block _ (lt_of_block k1)).trans k1
  have HL : Hid (∀ W s, Below wz.heap.size wz W → s ∈ rs → Calls Tryz.prog 65 #[.slice po m d, .agg #[.string p.1, v], .string s] W fun e w' => e = .returned (.bool (Lab.letsB ls ps p s)) ∧ Below W.heap.size W w') := fun W s hW hs =>
    letsR po b off m d ls ps p v s W (hp.later (hbz.trans (hW.mono hbz.size))) hr hof (hq.2 s hs) (hv.later (hbz.trans (hW.mono hbz.size))) h7
  obtain ⟨ro, rb, roff, rc, hu1, _, _, hu4⟩ := hu
  subst hu1
  simp only at hu4 h6
  have HST : Hid (∀ W, Below wz.heap.size wz W → Strs W ro rb roff rs) := fun W hW => hu4.later (hbz.trans (hW.mono hbz.size))
  have HBZ : Hid (Below w.heap.size w wz) := hbz
  have HE : Hid (Lab.coversB ls ps (o, rs) p = (Act.acts ls ps o p.1 && !(rs.any fun r => !Lab.letsB ls ps p r))) := rfl
  rw [HE.out]
  obtain ⟨n, hn⟩ : ∃ n, n = rs.length := ⟨_, rfl⟩
  simp only at HK0 ⊢
  rw [← hn] at hwz HK0 h6 ⊢
  have HN : Hid (n = rs.length) := hn
  have HWZ : Hid (wz = (w.alloc (.cells #[.string o, .slice ro n rc] 63)).alloc (.cells #[.string p.1, v] 63)) := hwz
  obtain ⟨t1, ht1⟩ : ∃ t1, t1 = Act.acts ls ps o p.1 := ⟨_, rfl⟩
  rw [← ht1] at hc1 ⊢
  clear ht1 hbz k0 k1 hu4 hn hp hr hq hof hv HE h7 hwz
  go_enter Tryz.func29, Tryz.ntmps29
  go_wp2_with fail
  rw [← HWZ.out]
  refine hc1.mono ?_
  rintro e w1 ⟨rfl, hb1⟩
  have HB1 : Hid (Below wz.heap.size wz w1) := hb1
  have k0 := HK0.out w1 hb1
  have f1 : w1.cell? ⟨w.heap.size, 1, none⟩ = some (.slice ro n rc) := by simp [World.cell?, k0]
  have l1 : w.heap.size < w1.heap.size := lt_of_block k0
  clear k0 hb1 hc1 HK0 HWZ
  cases t1 with
  | false =>
    go_wp2
    go_ret
    exact ⟨rfl, HBZ.out.trans (HB1.out.mono HBZ.out.size)⟩
  | true =>
    go_wp2
    go_loopw [19] (fun i wr => ∃ k : Nat, k ≤ n ∧ i = .int .i64 k ∧ Hid (∀ t ∈ rs.take k, (!Lab.letsB ls ps p t) = false) ∧ Hid (Below wz.heap.size wz wr)) (fun i _ => n - (intOf i).toNat)
    case atStart => exact ⟨0, Nat.zero_le _, rfl, by show ∀ t ∈ _, _; simp, HB1⟩
    case round =>
      obtain ⟨k, hk, rfl, HA, HB⟩ := hrel
      have HBB : Hid (Below w.heap.size w wr) := HBZ.out.trans (HB.out.mono HBZ.out.size)
      by_cases hlt : k < n
      · have hkl : k < rs.length := by have := HN.out; omega
        have hst := HST.out wr HB.out
        have hao := hst.adr (by omega)
        have g0 := hst.cell k hkl
        obtain ⟨t, ht⟩ : ∃ t, t = rs[k] := ⟨_, rfl⟩
        rw [← ht] at g0
        have HT : Hid (t = rs[k]) := ht
        have hcall := HL.out wr t HB.out (ht ▸ List.getElem_mem hkl)
        have kk := HK1.out wr HB.out
        have c0 : wr.cell? ⟨w.heap.size + 1, 0, none⟩ = some (.string p.1) := by simp [World.cell?, kk]
        have c1 : wr.cell? ⟨w.heap.size + 1, 1, none⟩ = some v := by simp [World.cell?, kk]
        have l2 : w.heap.size + 1 < wr.heap.size := lt_of_block kk
        clear hst ht kk
        subst hao
        cases hq2 : Lab.letsB ls ps p t with
        | true =>
          rw [hq2] at hcall
          have HF : Hid (∀ t ∈ rs.take (k + 1), (!Lab.letsB ls ps p t) = false) := none_step (t := fun t => !Lab.letsB ls ps p t) hkl HA.out (by rw [← HT.out]; simp [hq2])
          clear hq2
          go_wp2_with fail
          refine hcall.mono ?_
          rintro e w2 ⟨rfl, hb2⟩
          have HB2 : Hid (Below wz.heap.size wz w2) := HB.out.trans (hb2.mono HB.out.size)
          clear hb2
          go_wp2
          go_roundw
          case rel => exact ⟨k + 1, by omega, by go_num, HF, HB2⟩
          case measure => simp [intOf]; omega
        | false =>
          rw [hq2] at hcall
          have HF : Hid ((rs.any fun r => !Lab.letsB ls ps p r) = true) := List.any_eq_true.2 ⟨_, List.getElem_mem hkl, by rw [← HT.out]; simp [hq2]⟩
          clear hq2
          go_wp2_with fail
          refine hcall.mono ?_
          rintro e w2 ⟨rfl, hb2⟩
          go_wp2
          go_ret
          refine ⟨?_, HBB.out.trans (hb2.mono HBB.out.size)⟩
          rw [HF.out]; rfl
      · have HF : Hid ((rs.any fun r => !Lab.letsB ls ps p r) = false) := by
          have h := HA.out
          rw [List.take_of_length_le (by have := HN.out; omega)] at h
          exact List.any_eq_false.2 fun t ht => by rw [h t ht]; simp
        go_wp2
        go_ret
        refine ⟨?_, HBB.out⟩
        rw [HF.out]; rfl
end Go.Proofs.YtpbknhhjfhpkmaaGreatDoor

namespace Go.Proofs.YtpbknhhjfhpkmaaGreatDoor
open Go.RowKit

def chk1 (ls : List ByteArray) (x : List Pol) : Int := if 200 < x.length then 2 else chkL ls x
theorem among_cons {ls : List ByteArray} {o : ByteArray} {rs : List ByteArray} (h6 : ¬ 6 < rs.length) (h : ∀ s ∈ o :: rs, s ∈ ls) : amongF ls rs = 0 ∧ Act.has ls o = true :=
  ⟨among_of (by omega) fun s hs => h s (by simp [hs]), Act.has_iff.2 (h o (by simp))⟩
theorem chkL_bad {ls : List ByteArray} {x : List Pol} {k : Nat} (hk : k < x.length) (h6 : ¬ 6 < x[k].2.length) {s : ByteArray} (hs : s ∈ x[k].1 :: x[k].2) (hn : s ∉ ls) : chkL ls (x.drop k) = 5 := by
  by_cases ha : amongF ls x[k].2 = 0
  · refine chkL_owner hk ha (Act.has_not.2 ?_)
    rcases List.mem_cons.1 hs with e | e
    · rw [← e]; exact hn
    · exact absurd ((among_ok ha).2 s e) hn
  · rw [chkL_readers hk ha]
    rcases List.mem_cons.1 hs with e | e
    · unfold amongF at ha ⊢
      rw [if_neg h6] at ha ⊢
      by_cases hall : (x[k].2.all fun s => Act.has ls s) = true
      · rw [if_pos hall] at ha; exact absurd rfl ha
      · rw [if_neg hall]
    · exact among_who (by omega) e hn
theorem chkL_many {ls : List ByteArray} {x : List Pol} {k : Nat} (hk : k < x.length) (h6 : 6 < x[k].2.length) : chkL ls (x.drop k) = 2 := by
  have e : amongF ls x[k].2 = 2 := by unfold amongF; rw [if_pos h6]
  rw [chkL_readers hk (by rw [e]; decide), e]

set_option maxRecDepth 100000 in
set_option maxHeartbeats 2000000 in
theorem checkLabelR (ao lo : Option Addr) (b off n c lb loff ln lc : Nat) (ls : List ByteArray) (x : List Pol) (w : World) (hn : n = ls.length) (hm : n ≤ maxLen) (hs : Strs w ao b off ls) (hx : LabAt w lo lb loff ln lc x) :
    Calls Tryz.prog 11 #[.slice ao n c, .slice lo ln lc] w fun e w' => e = .returned (.int .i64 (chk1 ls x)) ∧ Below w.heap.size w w' := by
  have HN : Hid (n = ls.length) := hn
  have HM : Hid (n ≤ maxLen) := hm
  have HS : Hid (Strs w ao b off ls) := hs
  have HX : Hid (LabAt w lo lb loff ln lc x) := hx
  have hlm := hx.mn
  unfold maxLen at hlm
  clear hn hm hs hx
  by_cases h200 : 200 < ln
  · have HF : Hid (chk1 ls x = 2) := by show _ = _; unfold chk1; rw [if_pos (by have := HX.out.ln; omega)]
    rw [HF.out]
    go_enter Tryz.func11, Tryz.ntmps11
    go_wp2
    go_ret
    exact ⟨rfl, Below.refl _ _⟩
  · have HF : Hid (chk1 ls x = chkL ls x) := by show _ = _; unfold chk1; rw [if_neg (by have := HX.out.ln; omega)]
    rw [HF.out]
    clear HF
    go_enter Tryz.func11, Tryz.ntmps11
    go_wp2
    go_loopw [14] (fun i wr => ∃ k : Nat, k ≤ ln ∧ i = .int .i64 k ∧ Hid (chkL ls (x.drop k) = chkL ls x) ∧ Hid (Below w.heap.size w wr)) (fun i _ => ln - (intOf i).toNat)
    case atStart => exact ⟨0, Nat.zero_le _, rfl, by show _ = _; simp, Below.refl _ _⟩
    case round =>
      obtain ⟨k, hk, rfl, HK, HB⟩ := hrel
      by_cases hlt : k < ln
      · have hkl : k < x.length := by have := HX.out.ln; omega
        have hX := HX.out.later HB.out
        have hao := hX.pols.adr (by omega)
        have f0 := hX.pols.c0 k hkl
        obtain ⟨v, f1, hv⟩ := hX.pols.c1 k hkl
        have hmany := fun h => chkL_many (ls := ls) hkl h
        have hbad := fun (h : ¬ 6 < x[k].2.length) s (h1 : s ∈ x[k].1 :: x[k].2) h2 => chkL_bad (ls := ls) hkl h h1 h2
        have hgood := fun h1 h2 => chkL_step (ls := ls) hkl h1 h2
        obtain ⟨p, hp⟩ : ∃ p, p = x[k] := ⟨_, rfl⟩
        rw [← hp] at f0 hv
        simp only [← hp] at hmany hbad hgood
        obtain ⟨o, rs⟩ := p
        simp only at f0 hv hmany hbad hgood
        have hv0 := hv
        obtain ⟨ro, rb, roff, rc, hv1, hv2, hv3, _⟩ := hv0
        subst hv1
        obtain ⟨wy, hwy⟩ : ∃ wy, wy = wr.alloc (.cells #[.string o, .slice ro rs.length rc] 63) := ⟨_, rfl⟩
        have hby : Below wr.heap.size wr wy := by rw [hwy]; exact (Below.refl _ _).alloc (Nat.le_refl _) _
        have HBY : Hid (Below w.heap.size w wy) := HB.out.trans (hby.mono HB.out.size)
        unfold maxLen at hv3
        by_cases h6 : 6 < rs.length
        · have HE : Hid (chkL ls x = 2) := by show _ = _; rw [← HK.out]; exact hmany h6
          obtain ⟨rn, hrn⟩ : ∃ rn, rn = rs.length := ⟨_, rfl⟩
          rw [← hrn] at f1 hwy h6 hv2
          have HWY : Hid (wy = wr.alloc (.cells #[.string o, .slice ro rn rc] 63)) := hwy
          have i6 : decide ((6 : Int) < (rn : Int)) = true := by simp; omega
          clear hX hp hv hby hwy hmany hbad hgood hrn
          subst hao
          go_wp2
          go_ret
          refine ⟨?_, ?_⟩
          · rw [HE.out]; rfl
          · rw [← HWY.out]; exact HBY.out
        · obtain ⟨wz, hwz⟩ : ∃ wz, wz = wy.alloc (.cells #[.string o] 9) := ⟨_, rfl⟩
          have hbz : Below wy.heap.size wy wz := by rw [hwz]; exact (Below.refl _ _).alloc (Nat.le_refl _) _
          have k1 : wz.heap[wy.heap.size]? = some (.cells #[.string o] 9 (0, 0)) := by rw [hwz]; exact heap_at_alloc _ _ _ rfl
          have hyz : wy.heap.size = wr.heap.size + 1 := by rw [hwy]; simp
          have hbyz : Below wr.heap.size wr wz := hby.trans (hbz.mono hby.size)
          obtain ⟨v', w', hrun, hown, hgr⟩ := one_more o (.slice ro rs.length rc) rs wy.heap.size 22 wz k1 (hv.later hbyz) (by omega)
          have hbw0 : Below w.heap.size w wz := HB.out.trans (hbyz.mono HB.out.size)
          have HBW : Hid (Below w.heap.size w w') := hbw0.grown hgr hbw0.size (fun j hj => by simp at hj; have := HBY.out.size; omega)
          obtain ⟨ao', g, cap, hv', _, _, hss⟩ := strs_of_own hown
          subst hv'
          rw [hwz, hwy] at hrun
          rw [← hwy, hyz] at hrun
          rw [hwy] at hrun
          have HSS : Hid (Strs w' ao' g 0 (o :: rs)) := hss
          have hbad' := hbad h6
          have HBAD : Hid (∀ s, s ∈ o :: rs → s ∉ ls → chkL ls x = 5) := fun s h1 h2 => by rw [← HK.out]; exact hbad' s h1 h2
          have HGOOD : Hid ((∀ s ∈ o :: rs, s ∈ ls) → chkL ls (x.drop (k + 1)) = chkL ls x) := fun h => by
            obtain ⟨g1, g2⟩ := among_cons h6 h
            rw [← HK.out]; exact (hgood g1 g2).symm
          obtain ⟨q, hq⟩ : ∃ q, q = (o :: rs).length := ⟨_, rfl⟩
          obtain ⟨rn, hrn⟩ : ∃ rn, rn = rs.length := ⟨_, rfl⟩
          rw [← hq] at hrun
          rw [← hrn] at hrun f1 h6 hv2
          have HQ : Hid (q = (o :: rs).length) := hq
          have hq7 : q ≤ 7 := by rw [hq]; simp; omega
          have HRUN : Hid ((Builtin.append_ #[22, 22] 22 #[.slice (some ⟨wr.heap.size + 1, 0, none⟩) 1 1, .slice ro rn rc]).run Tryz.prog ((wr.alloc (.cells #[.string o, .slice ro rn rc] 63)).alloc (.cells #[.string o] 9)) = .ok (.slice ao' q cap) w') := hrun
          obtain ⟨row, hrow⟩ : ∃ row, row = o :: rs := ⟨_, rfl⟩
          rw [← hrow] at HSS HBAD HGOOD HQ
          have i6 : decide ((6 : Int) < (rn : Int)) = false := by simp; omega
          clear hX hp hv hby hwy hmany hbad hbad' hgood hrn hq hrow hrun hown hgr hss hbw0 hbz k1 hyz hbyz hwz HBY
          subst hao
          obtain ⟨wq, hwq⟩ : ∃ wq, wq = wr := ⟨wr, rfl⟩
          subst hwq
          go_wp2_with (at_builtin; refine Lib.wpList_append_run _ rfl _ _ _ _ rfl _ _ rfl rfl _ _ HRUN.out ?_)
          clear HRUN
          go_loopw [29] (fun i wx => ∃ j : Nat, j ≤ q ∧ i = .int .i64 j ∧ Hid (∀ s ∈ row.take j, s ∈ ls) ∧ wx = w') (fun i _ => q - (intOf i).toNat)
          case atStart => exact ⟨0, Nat.zero_le _, rfl, by show ∀ t ∈ _, _; simp, rfl⟩
          case round =>
            obtain ⟨j, hj, rfl, HA, hw⟩ := hrel
            subst hw
            by_cases hlt2 : j < q
            · have hjl : j < row.length := by have := HQ.out; omega
              have hro := HSS.out.adr (by omega)
              have g0 := HSS.out.cell j hjl
              rw [Nat.zero_add] at g0
              obtain ⟨s, hs⟩ : ∃ s, s = row[j] := ⟨_, rfl⟩
              rw [← hs] at g0
              have HSJ : Hid (s = row[j]) := hs
              have hct := contains_any ao b off n c ls s wr HN.out HM.out (HS.out.later HBW.out)
              clear hs
              subst hro
              cases hh : Act.has ls s with
              | true =>
                rw [hh] at hct
                have HA2 : Hid (∀ s ∈ row.take (j + 1), s ∈ ls) := all_step hjl HA.out (by rw [← HSJ.out]; exact Act.has_iff.1 hh)
                clear hh
                go_wp2_with fail
                refine hct.mono ?_
                rintro e w1 ⟨rfl, hw⟩
                have hw' := hw.symm
                subst hw'
                go_wp2
                go_roundw
                case rel => exact ⟨j + 1, by omega, by go_num, HA2, trivial⟩
                case measure => simp [intOf]; omega
              | false =>
                rw [hh] at hct
                have HE : Hid (chkL ls x = 5) := HBAD.out s (by rw [HSJ.out]; exact List.getElem_mem hjl) (Act.has_not.1 hh)
                clear hh
                go_wp2_with fail
                refine hct.mono ?_
                rintro e w1 ⟨rfl, hw⟩
                have hw' := hw.symm
                subst hw'
                go_wp2
                go_ret
                refine ⟨?_, HBW.out⟩
                rw [HE.out]; rfl
            · have HE : Hid (chkL ls (x.drop (k + 1)) = chkL ls x) := HGOOD.out (by
                have h := HA.out
                rwa [List.take_of_length_le (by have := HQ.out; omega)] at h)
              go_wp2
              go_roundw
              case rel => exact ⟨k + 1, by omega, by go_num, HE, HBW⟩
              case measure => simp [intOf]; omega
      · have HE : Hid (chkL ls x = 0) := by
          have e := HK.out
          rw [List.drop_of_length_le (by have := HX.out.ln; omega)] at e
          show _ = _
          rw [← e]; rfl
        go_wp2
        go_ret
        refine ⟨?_, HB.out⟩
        rw [HE.out]; rfl

/- The first error of some labels. -/
def badF (ls : List ByteArray) : List (List Pol) → Int
  | [] => 0
  | x :: r => if chk1 ls x = 0 then badF ls r else chk1 ls x
theorem bad_one (ls : List ByteArray) (ps : List (ByteArray × ByteArray)) (x : List Pol) : (if checkF ls ps = 0 then badF ls [x] else checkF ls ps) = checkL ls ps x := by
  unfold checkL badF badF chk1
  split
  · split <;> rename_i h <;> simp_all
  · rfl
theorem bad_two (ls : List ByteArray) (ps : List (ByteArray × ByteArray)) (x y : List Pol) : (if checkF ls ps = 0 then badF ls [x, y] else checkF ls ps) = bothL ls ps x y := by
  have e1 : ∀ z, checkF ls ps = 0 → checkL ls ps z = chk1 ls z := fun z h => by unfold checkL chk1; rw [if_pos h]
  by_cases h : checkF ls ps = 0
  · rw [if_pos h, bothL, e1 x h, e1 y h, badF, badF, badF]
    split
    · split <;> rename_i h <;> simp_all
    · rfl
  · have e2 : ∀ z, checkL ls ps z = checkF ls ps := fun z => by unfold checkL; rw [if_neg h]
    rw [if_neg h, bothL, e2 x, if_neg h]
end Go.Proofs.YtpbknhhjfhpkmaaGreatDoor

namespace Go.Proofs.YtpbknhhjfhpkmaaGreatDoor
open Go.RowKit

/- A label whose names are chiefs. -/
structure Good (w : World) (ao : Option Addr) (b off n : Nat) (ls : List ByteArray) (x : List Pol) : Prop where
  ln : n = x.length
  few : n ≤ 1000
  pols : Pols w ao b off x
  of : Lab.OfL ls x
  rd : ∀ p ∈ x, p.2.length ≤ 1000
theorem Good.later {w w' : World} {ao : Option Addr} {b off n : Nat} {ls : List ByteArray} {x : List Pol} (h : Good w ao b off n ls x) (hb : Below w.heap.size w w') : Good w' ao b off n ls x := ⟨h.ln, h.few, h.pols.later hb, h.of, h.rd⟩

set_option maxRecDepth 100000 in
set_option maxHeartbeats 2000000 in
theorem mayGoR (po xo yo : Option Addr) (b off m d xb xoff xn xc yb yoff yn yc : Nat) (ls : List ByteArray) (ps : List (ByteArray × ByteArray)) (x y : List Pol) (w : World) (hp : Pairs w po b off m ps) (hr : Act.Right ls ps) (hx : Good w xo xb xoff xn ls x) (hy : Good w yo yb yoff yn ls y) :
    Calls Tryz.prog 12 #[.slice po m d, .slice xo xn xc, .slice yo yn yc] w fun e w' => e = .returned (.bool (Lab.flowsB ls ps x y)) ∧ Below w.heap.size w w' := by
  have HP : Hid (Pairs w po b off m ps) := hp
  have HR : Hid (Act.Right ls ps) := hr
  have HX : Hid (Good w xo xb xoff xn ls x) := hx
  have HY : Hid (Good w yo yb yoff yn ls y) := hy
  have hxm := hx.few
  have hym := hy.few
  clear hp hr hx hy
  go_enter Tryz.func12, Tryz.ntmps12
  go_wp2
  go_loopw [14] (fun i wr => ∃ k : Nat, k ≤ xn ∧ i = .int .i64 k ∧ Hid (∀ p ∈ x.take k, (!Lab.coveredB ls ps y p) = false) ∧ Hid (Below w.heap.size w wr)) (fun i _ => xn - (intOf i).toNat)
  case atStart => exact ⟨0, Nat.zero_le _, rfl, by show ∀ t ∈ _, _; simp, Below.refl _ _⟩
  case round =>
    obtain ⟨k, hk, rfl, HA, HB⟩ := hrel
    by_cases hlt : k < xn
    · have hkl : k < x.length := by have := HX.out.ln; omega
      have hX := HX.out.later HB.out
      have hao := hX.pols.adr (by omega)
      have f0 := hX.pols.c0 k hkl
      obtain ⟨v, f1, hv⟩ := hX.pols.c1 k hkl
      obtain ⟨ro, rc, rn, hv0⟩ : ∃ ro rc rn, v = .slice ro rn rc := by obtain ⟨ro, _, _, rc, h, _⟩ := hv; exact ⟨ro, rc, _, h⟩
      subst hv0
      obtain ⟨p, hpk⟩ : ∃ p, p = x[k] := ⟨_, rfl⟩
      rw [← hpk] at f0 hv
      have HPK : Hid (p = x[k]) := hpk
      have HMP : Hid (p ∈ x) := by show p ∈ x; rw [hpk]; exact List.getElem_mem hkl
      obtain ⟨wy, hwy⟩ : ∃ wy, wy = wr.alloc (.cells #[.string p.1, .slice ro rn rc] 63) := ⟨_, rfl⟩
      have hby : Below wr.heap.size wr wy := by rw [hwy]; exact (Below.refl _ _).alloc (Nat.le_refl _) _
      have HBY : Hid (Below w.heap.size w wy) := HB.out.trans (hby.mono HB.out.size)
      have HV : Hid (ReadersAt wy (.slice ro rn rc) p.2) := hv.later hby
      have HKB : Hid (wy.heap[wr.heap.size]? = some (.cells #[.string p.1, .slice ro rn rc] 63 (0, 0))) := by show _ = _; rw [hwy]; exact heap_at_alloc _ _ _ rfl
      have HWY : Hid (wy = wr.alloc (.cells #[.string p.1, .slice ro rn rc] 63)) := hwy
      obtain ⟨pb, hpb⟩ : ∃ pb, pb = wr.heap.size := ⟨_, rfl⟩
      rw [← hpb] at HKB
      have HPB : Hid (pb = wr.heap.size) := hpb
      clear hX hpk hby hwy hv hpb
      subst hao
      go_wp2
      rw [← HWY.out, ← HPB.out]
      obtain ⟨wq, hwq⟩ : ∃ wq, wq = wr := ⟨wr, rfl⟩
      subst hwq
      clear f0 f1 HWY HPB
      go_loopw [9, 20] (fun s i wx => ∃ j : Nat, j ≤ yn ∧ i = .int .i64 j ∧ s = .bool ((y.take j).any fun q => Lab.coversB ls ps q p) ∧ Hid (Below wy.heap.size wy wx)) (fun _ i _ => yn - (intOf i).toNat)
      case atStart => exact ⟨0, Nat.zero_le _, rfl, by simp, Below.refl _ _⟩
      case round =>
        obtain ⟨j, hj, rfl, rfl, HBx⟩ := hrel
        have HBW : Hid (Below w.heap.size w wr) := HBY.out.trans (HBx.out.mono HBY.out.size)
        by_cases hlt2 : j < yn
        · have hjl : j < y.length := by have := HY.out.ln; omega
          have hY := HY.out.later HBW.out
          have hyo := hY.pols.adr (by omega)
          have g0 := hY.pols.c0 j hjl
          obtain ⟨u, g1, hu⟩ := hY.pols.c1 j hjl
          obtain ⟨so, sc, sn, hu0⟩ : ∃ ro rc rn, u = .slice ro rn rc := by obtain ⟨ro, _, _, rc, h, _⟩ := hu; exact ⟨ro, rc, _, h⟩
          subst hu0
          obtain ⟨q, hqj⟩ : ∃ q, q = y[j] := ⟨_, rfl⟩
          rw [← hqj] at g0 hu
          have hqm : q ∈ y := by rw [hqj]; exact List.getElem_mem hjl
          obtain ⟨wv, hwv⟩ : ∃ wv, wv = wr.alloc (.cells #[.string q.1, .slice so sn sc] 63) := ⟨_, rfl⟩
          have hbv : Below wr.heap.size wr wv := by rw [hwv]; exact (Below.refl _ _).alloc (Nat.le_refl _) _
          have hcall := coversR po b off m d ls ps q p (.slice so sn sc) (.slice ro rn rc) wv (HP.out.later (HBW.out.trans (hbv.mono HBW.out.size))) HR.out (HY.out.of q hqm) (HX.out.of p HMP.out) (hu.later hbv) (HV.out.later (HBx.out.trans (hbv.mono HBx.out.size))) (HY.out.rd q hqm) (HX.out.rd p HMP.out)
          have kk : wr.heap[pb]? = some (.cells #[.string p.1, .slice ro rn rc] 63 (0, 0)) := (HBx.out.block _ (lt_of_block HKB.out)).trans HKB.out
          have c0 : wr.cell? ⟨pb, 0, none⟩ = some (.string p.1) := by simp [World.cell?, kk]
          have c1 : wr.cell? ⟨pb, 1, none⟩ = some (.slice ro rn rc) := by simp [World.cell?, kk]
          have lpb : pb < wr.heap.size := lt_of_block kk
          have HTK : Hid (((y.take (j + 1)).any fun q => Lab.coversB ls ps q p) = (((y.take j).any fun q => Lab.coversB ls ps q p) || Lab.coversB ls ps q p)) := by
            show _ = _
            rw [List.take_succ_eq_append_getElem hjl, ← hqj]; simp
          have HBV : Hid (Below wy.heap.size wy wv) := HBx.out.trans (hbv.mono HBx.out.size)
          have HWV : Hid (wv = wr.alloc (.cells #[.string q.1, .slice so sn sc] 63)) := hwv
          obtain ⟨s0, hs0⟩ : ∃ s0, s0 = (y.take j).any fun q => Lab.coversB ls ps q p := ⟨_, rfl⟩
          rw [← hs0] at HTK ⊢
          obtain ⟨t, ht⟩ : ∃ t, t = Lab.coversB ls ps q p := ⟨_, rfl⟩
          rw [← ht] at HTK hcall
          clear hs0 ht hY hqj hqm hbv hwv hu kk
          subst hyo
          cases s0 with
          | true =>
            go_wp2
            rw [← HWV.out]
            go_roundw
            case rel => exact ⟨j + 1, by omega, by go_num, by rw [HTK.out]; simp, HBV⟩
            case measure => simp [intOf]; omega
          | false =>
            go_wp2_with fail
            rw [← HWV.out]
            refine hcall.mono ?_
            rintro e w2 ⟨rfl, hb2⟩
            have HB2 : Hid (Below wy.heap.size wy w2) := HBV.out.trans (hb2.mono HBV.out.size)
            clear hb2
            go_wp2
            go_roundw
            case rel => exact ⟨j + 1, by omega, by go_num, by rw [HTK.out]; simp, HB2⟩
            case measure => simp [intOf]; omega
        · have HC : Hid (((y.take j).any fun q => Lab.coversB ls ps q p) = Lab.coveredB ls ps y p) := by
            show _ = _
            rw [List.take_of_length_le (by have := HY.out.ln; omega)]; rfl
          rw [HC.out]
          cases hcv : Lab.coveredB ls ps y p with
          | true =>
            have HF : Hid (∀ p ∈ x.take (k + 1), (!Lab.coveredB ls ps y p) = false) := none_step (t := fun p => !Lab.coveredB ls ps y p) hkl HA.out (by rw [← HPK.out]; simp [hcv])
            clear hcv HC
            go_wp2
            go_roundw
            case rel => exact ⟨k + 1, by omega, by go_num, HF, HBW⟩
            case measure => simp [intOf]; omega
          | false =>
            have HF : Hid (Lab.flowsB ls ps x y = false) := by
              show _ = _
              have : (x.any fun p => !Lab.coveredB ls ps y p) = true := List.any_eq_true.2 ⟨_, List.getElem_mem hkl, by rw [← HPK.out]; simp [hcv]⟩
              simp [Lab.flowsB, this]
            clear hcv HC
            go_wp2
            go_ret
            refine ⟨?_, HBW.out⟩
            rw [HF.out]; rfl
    · have HF : Hid (Lab.flowsB ls ps x y = true) := by
        have h := HA.out
        rw [List.take_of_length_le (by have := HX.out.ln; omega)] at h
        have : (x.any fun p => !Lab.coveredB ls ps y p) = false := List.any_eq_false.2 fun p hp => by rw [h p hp]; simp
        show _ = _
        simp [Lab.flowsB, this]
      go_wp2
      go_ret
      refine ⟨?_, HB.out⟩
      rw [HF.out]; rfl
end Go.Proofs.YtpbknhhjfhpkmaaGreatDoor
