/- Contract of label's normal. Contract of label.Normal. slices.Grow of nothing, and slices.Concat of two labels. -/
import Derived.Test.YtpbknhhjfhpkmaaGreatDoorGaSort
import Derived.Test.YtpbknhhjfhpkmaaGreatDoorGaLabW
import Derived.Maps.AppendAt
import Derived.Deep.RegionHeld3
import Derived.Deep.AppendLies
import Derived.Lib.AppendZerosOnto
import Derived.Lib.AppendZeros
import Derived.Deep.DeepAppendRoom
namespace Go.Proofs.YtpbknhhjfhpkmaaGreatDoor
open Go.RowKit Go.Maps

theorem off_step {wa w3 : World} {v v2 : Value} {y : PV} (h : Off wa v.ownBlock y) (hgr : wa.grownBy w3 v.ownBlock) (hloc : v2.ownBlock = v.ownBlock ∨ v2.ownBlock = some wa.heap.size) : Off w3 v2.ownBlock y := by
  obtain ⟨ro, rb, roff, rc, h1, h2, h3, h4, h5⟩ := h
  refine ⟨ro, rb, roff, rc, h1, h2, h3, strs_kept h4 hgr h5, fun hp => ?_⟩
  rcases hloc with e | e
  · rw [e]; exact h5 hp
  · rw [e]
    have := h4.lt hp
    intro e2
    injection e2 with e2
    omega
theorem two_new (w : World) (a b : Value) (e : TypeId) : ∀ j u, [a, b][j]? = some u → (w.alloc (.cells #[a, b] e)).cell? ((⟨w.heap.size, 0, none⟩ : Addr).add j) = some u := by
  intro j u hj
  have e0 : (w.alloc (.cells #[a, b] e)).cell? ⟨w.heap.size, j, none⟩ = (#[a, b] : Array Value)[j]? := World.cell?_alloc_at _ _ _ _ (by simp)
  have e1 : (⟨w.heap.size, 0, none⟩ : Addr).add j = ⟨w.heap.size, j, none⟩ := by simp [Addr.add]; intro h; exact h.symm
  rw [e1, e0]; simpa using hj
/- Readers that are new: in blocks from base on. -/
def NewR (base : Nat) (y : PV) : Prop := 0 < y.1.2.length → ∀ rb, y.2.ownBlock = some rb → base ≤ rb
theorem NewR.mono {a b : Nat} {y : PV} (h : NewR b y) (hab : a ≤ b) : NewR a y := fun hp rb e => Nat.le_trans hab (h hp rb e)
/- What the first loop holds. -/
structure RiseSt (w wr : World) (v : Value) (L : List PV) (B : Nat) (T : ByteArray → ByteArray → Bool) : Prop where
  bel : Below w.heap.size w wr
  box : wr.heap[w.heap.size]? = some (.cells #[.map (some B)] 105 (0, 0))
  ord : Ord wr B T
  own : wr.ownsRow (w.heap.size + 1) 63 2 v L.length (polC L)
  off : ∀ y ∈ L, Off wr v.ownBlock y
  nw : ∀ y ∈ L, NewR w.heap.size y
theorem RiseSt.later {w wr w1 : World} {v : Value} {L : List PV} {B : Nat} {T : ByteArray → ByteArray → Bool} (h : RiseSt w wr v L B T) (hb : Below wr.heap.size wr w1) : RiseSt w w1 v L B T :=
  ⟨h.bel.trans (hb.mono h.bel.size), (hb.block _ (lt_of_block h.box)).trans h.box, h.ord.later hb, own_below h.own hb, fun y hy => (h.off y hy).later hb, h.nw⟩
theorem polC_snoc (L : List PV) (y : PV) : polC L ++ [.string y.1.1, y.2] = polC (L ++ [y]) := by simp [polC, encP]
theorem RiseSt.step {w wr w2 w3 : World} {v v2 : Value} {L : List PV} {B : Nat} {T : ByteArray → ByteArray → Bool} {y : PV} (h : RiseSt w wr v L B T) (hB : B < w.heap.size) (hb : Below wr.heap.size wr w2) (hr : ReadersNew w2 wr.heap.size y.2 y.1.2) (hown : w3.ownsRow (w.heap.size + 1) 63 2 v2 (L.length + 1) (polC L ++ [.string y.1.1, y.2]))
    (hgr : (w2.alloc (.cells #[.string y.1.1, y.2] 63)).grownBy w3 v.ownBlock) (hloc : v2.ownBlock = v.ownBlock ∨ v2.ownBlock = some (w2.alloc (.cells #[.string y.1.1, y.2] 63)).heap.size) : RiseSt w w3 v2 (L ++ [y]) B T := by
  have h2 := (h.later hb).later ((Below.refl w2.heap.size w2).alloc (Nat.le_refl _) (.cells #[.string y.1.1, y.2] 63))
  have hne : ∀ k, some k = v.ownBlock → w.heap.size + 1 ≤ k := fun k he => (h.own.lt _ he.symm).1
  have hlt : ∀ k, some k = v.ownBlock → k < wr.heap.size := fun k he => (h.own.lt _ he.symm).2
  refine ⟨h2.bel.grown hgr h2.bel.size (fun k he => by have := hne k he.symm; omega), ?_, ?_, ?_, fun z hz => ?_, fun z hz => ?_⟩
  · rw [hgr.block _ (lt_of_block h2.box) (fun he => by have := hne _ he; omega)]; exact h2.box
  · obtain ⟨n, D, k1, k2⟩ := h2.ord
    exact ⟨n, D, k1.kept hgr (fun he => by have := hne _ he; omega), k2⟩
  · rw [← polC_snoc, List.length_append]; exact hown
  · rcases List.mem_append.1 hz with hz | hz
    · exact off_step (h2.off z hz) hgr hloc
    · have e : z = y := by simpa using hz
      subst e
      obtain ⟨ro, rb, roff, rc, k1, k2, k3, k4, k5⟩ := hr
      refine off_step (v := v) ⟨ro, rb, roff, rc, k1, k2, k3, k4.later ((Below.refl _ _).alloc (Nat.le_refl _) _), fun hp he => ?_⟩ hgr hloc
      have := hlt rb he
      have := k5 hp
      omega
  · rcases List.mem_append.1 hz with hz | hz
    · exact h.nw z hz
    · have e : z = y := by simpa using hz
      subst e
      obtain ⟨ro, rb, roff, rc, k1, k2, k3, k4, k5⟩ := hr
      intro hp rb' e'
      have hro := k4.adr hp
      rw [k1, hro] at e'
      have e2 : rb = rb' := by simpa [Value.ownBlock] using e'
      have := k5 hp
      have := h.bel.size
      omega
theorem below_drew (w : World) : Below w.heap.size w w.drew := ⟨rfl, rfl, rfl, Nat.le_refl _, fun _ _ => rfl⟩
theorem below_drew_alloc (w : World) (o : Obj) : Below w.heap.size w (w.drew.alloc o) := (below_drew w).trans ((Below.refl w.heap.size w.drew).alloc (Nat.le_refl w.heap.size) o)
theorem own_same (ao : Option Addr) (n m c d : Nat) : (Value.slice ao n c).ownBlock = (Value.slice ao m d).ownBlock := by cases ao <;> rfl
structure SmallP (p : Pol) : Prop where
  own : p.1.size ≤ 100000
  few : p.2.length ≤ 6
  rd : ∀ r ∈ p.2, r.size ≤ 100000

set_option maxRecDepth 100000 in
set_option maxHeartbeats 4000000 in
theorem normalC (B : Nat) (ls : List ByteArray) (ps : List (ByteArray × ByteArray)) (ao : Option Addr) (b off n c : Nat) (x : List Pol) (w : World) (ho : Ord w B (Act.acts ls ps)) (hn : n = x.length) (hm : n ≤ 1000) (hx : Pols w ao b off x) (hsm : ∀ p ∈ x, SmallP p) :
    Calls Tryz.prog 56 #[.map (some B), .slice ao n c] w fun e w' => ∃ (v : Value) (M : List PV) (R : List Pol), e = .returned v ∧ w'.ownsRow w.heap.size 63 2 v M.length (polC M) ∧ (∀ y ∈ M, ReadersAt w' y.2 y.1.2 ∧ NewR w.heap.size y) ∧ R.Perm (x.map plainF) ∧ R.Pairwise (fun a b => a = b ∨ plt a b) ∧ M.map (·.1) = R.foldl (Lab.stepN (Lab.coversB ls ps)) [] ∧ Below w.heap.size w w' := by
  have HO : Hid (Ord w B (Act.acts ls ps)) := ho
  have HB0 : Hid (B < w.heap.size) := ho.lt
  have HN : Hid (n = x.length) := hn
  have HX : Hid (Pols w ao b off x) := hx
  have HSM : Hid (∀ p ∈ x, SmallP p) := hsm
  have HS0 : Hid (RiseSt w (w.alloc (.cells #[.map (some B)] 105)) (.slice none 0 0) [] B (Act.acts ls ps)) := by
    have hb : Below w.heap.size w (w.alloc (.cells #[.map (some B)] 105)) := (Below.refl _ _).alloc (Nat.le_refl _) _
    exact ⟨hb, heap_at_alloc _ _ _ rfl, ho.later hb, World.ownsRow_nil _ _ _ _, fun y hy => (by cases hy), fun y hy => (by cases hy)⟩
  have hmf : ∀ (fn : Fn) (first cap : Array Value) (w : World), (Instr.makeFunc fn first cap).run Tryz.prog w = .ok (.func fn first cap) w := fun _ _ _ _ => rfl
  obtain ⟨i0, hi, hz0, hz1, hz2⟩ := info_parts Tryz.infoPolD
  clear ho hn hx hsm
  go_enter Tryz.func56, Tryz.ntmps56
  go_wp2
  go_loopw [5, 14] (fun v i wr => ∃ k : Nat, k ≤ n ∧ i = .int .i64 k ∧ Hid (∃ L : List PV, RiseSt w wr v L B (Act.acts ls ps) ∧ L.map (·.1) = (x.take k).map plainF)) (fun _ i _ => n - (intOf i).toNat)
  case atStart => exact ⟨0, Nat.zero_le _, rfl, [], HS0.out, rfl⟩
  case round =>
    clear HS0
    obtain ⟨k, hk, rfl, HL⟩ := hrel
    obtain ⟨L, hS, hLm⟩ := HL.out
    have HS : Hid (RiseSt w wr u5 L B (Act.acts ls ps)) := hS
    have HLM : Hid (L.map (·.1) = (x.take k).map plainF) := hLm
    have hLl : L.length = k := by
      have := congrArg List.length hLm
      rw [List.length_map, List.length_map, List.length_take] at this
      have := HN.out; omega
    clear HL hS hLm
    by_cases hlt : k < n
    · have hkl : k < x.length := by have := HN.out; omega
      have hX := HX.out.later HS.out.bel
      have hao := hX.adr (by omega)
      have f0 := hX.c0 k hkl
      obtain ⟨pv, f1, hv⟩ := hX.c1 k hkl
      have hsp := HSM.out _ (List.getElem_mem hkl)
      have htk : (x.take (k + 1)).map plainF = (x.take k).map plainF ++ [plainF x[k]] := by rw [List.take_succ_eq_append_getElem hkl, List.map_append]; rfl
      obtain ⟨p, hp⟩ : ∃ p, p = x[k] := ⟨_, rfl⟩
      rw [← hp] at f0 hv hsp htk
      obtain ⟨ro, rc, rn, hv0⟩ : ∃ ro rc rn, pv = .slice ro rn rc := by obtain ⟨ro, _, _, rc, h, _⟩ := hv; exact ⟨ro, rc, _, h⟩
      subst hv0
      obtain ⟨wy, hwy⟩ : ∃ wy, wy = wr.alloc (.cells #[.string p.1, .slice ro rn rc] 63) := ⟨_, rfl⟩
      have hby : Below wr.heap.size wr wy := by rw [hwy]; exact (Below.refl _ _).alloc (Nat.le_refl _) _
      have hcall := plainC p (.slice ro rn rc) wy (hv.later hby) hsp.few hsp.own hsp.rd
      have HTK : Hid ((x.take (k + 1)).map plainF = (x.take k).map plainF ++ [plainF p]) := htk
      have HBY : Hid (Below wr.heap.size wr wy) := hby
      have HWY : Hid (wy = wr.alloc (.cells #[.string p.1, .slice ro rn rc] 63)) := hwy
      obtain ⟨ao', cap', hv5⟩ := slice_of HS.out.own
      rw [hLl] at hv5
      subst hv5
      clear hX hp hv hsp htk hby hwy
      subst hao
      go_wp2_with fail
      rw [← HWY.out]
      refine hcall.mono ?_
      rintro e w2 ⟨v', rfl, hrn, hb2⟩
      have HRN : Hid (ReadersNew w2 wr.heap.size v' (plainF p).2) := by
        obtain ⟨a1, a2, a3, a4, k1, k2, k3, k4, k5⟩ := hrn
        exact ⟨a1, a2, a3, a4, k1, k2, k3, k4, fun h => Nat.le_trans HBY.out.size (k5 h)⟩
      have HB2 : Hid (Below wr.heap.size wr w2) := HBY.out.trans (hb2.mono HBY.out.size)
      have HO2 : Hid (w2.ownsRow (w.heap.size + 1) 63 2 (.slice ao' k cap') k (polC L)) := by have h9 := own_below HS.out.own HB2.out; rw [hLl] at h9; exact h9
      have hbig : w.heap.size + 1 ≤ w2.heap.size := Nat.le_trans (lt_of_block HS.out.box) HB2.out.size
      have hv1 : v'.oneCell' = true := by obtain ⟨a1, a2, a3, a4, k1, _⟩ := hrn; rw [k1]; rfl
      clear hb2 hrn hcall HBY HWY
      go_wp2_with (at_builtin; refine wpList_append_own_at _ rfl _ _ 34 rfl (w.heap.size + 1) 63 i0 (.agg #[.string ⟨#[]⟩, .slice none 0 0]) 2 40 Tryz.underlying34 hi hz0 hz1 hz2 rfl (by decide) _ _ _ rfl (World.ownsRow.alloc HO2.out _) ⟨w2.heap.size, 0, none⟩ 1 1 [.string p.1, v'] rfl rfl ?c1 ?c2 ?c3 ?c4 ?c5 ?_)
      case c1 => exact two_new _ _ _ _
      case c2 => intro u hu; simp at hu; rcases hu with rfl | rfl; rfl; exact hv1
      case c3 => unfold maxLen; omega
      case c4 => omega
      case c5 => simp; omega
      · intro v2 w3 hown3 hgrow3 _ hloc3
        have HN3 : Hid (∃ L : List PV, RiseSt w w3 v2 L B (Act.acts ls ps) ∧ L.map (·.1) = (x.take (k + 1)).map plainF) := ⟨L ++ [(plainF p, v')], HS.out.step (y := (plainF p, v')) HB0.out HB2.out HRN.out (by rw [hLl]; exact hown3) hgrow3 (hloc3.imp id fun h9 => h9.trans (by simp)), by rw [List.map_append, HLM.out, HTK.out]; rfl⟩
        clear hown3 hgrow3 hloc3
        go_wp2
        go_roundw
        case rel => exact ⟨k + 1, by omega, by go_num, HN3⟩
        case measure => simp [intOf]; omega
    · have hkn : k = n := by omega
      have hL : L.map (·.1) = x.map plainF := by rw [HLM.out, List.take_of_length_le (by have := HN.out; omega)]
      have hSz : ∀ y ∈ L, SzP y.1 := by
        intro y hy
        have h1 : y.1 ∈ x.map plainF := by rw [← hL]; exact List.mem_map_of_mem hy
        obtain ⟨p, hp, e⟩ := List.mem_map.1 h1
        rw [← e]
        have h2 := HSM.out p hp
        have h3 := plainF_len p
        refine ⟨by have := h2.own; show p.1.size ≤ _; unfold maxLen; omega, by have := h2.few; omega, fun r hr => ?_⟩
        have := h2.rd r (((plainF_clean p).mem r).1 hr).1
        unfold maxLen; omega
      obtain ⟨ao', cap', hv5⟩ := slice_of HS.out.own
      rw [hLl, hkn] at hv5
      subst hv5
      have hcall := sortC (w.heap.size + 1) ao' n cap' L wr (by omega) hm (by have h9 := HS.out.own; rw [hLl, hkn] at h9; exact h9) HS.out.off (fun y hy => (hSz y hy).few)
      have HSZ : Hid (∀ y ∈ L, SzP y.1) := hSz
      have HL : Hid (L.map (·.1) = x.map plainF) := hL
      clear hL hSz HLM
      go_wp2_with fail
      refine hcall.mono ?_
      rintro e wS ⟨rfl, M, hperm, hsort, hgr, g1, hrow⟩
      have hown0 : ∀ k, (Value.slice ao' n cap').ownBlock = some k → w.heap.size + 1 ≤ k := fun k he => (HS.out.own.lt _ he).1
      have HBS : Hid (Below w.heap.size w wS) := HS.out.bel.grown hgr HS.out.bel.size (fun k he => by have := hown0 k he; omega)
      have HBX : Hid (wS.heap[w.heap.size]? = some (.cells #[.map (some B)] 105 (0, 0))) := by
        show _ = _
        rw [hgr.block _ (lt_of_block HS.out.box) (fun he => by have := hown0 _ he.symm; omega)]; exact HS.out.box
      have HOS : Hid (Ord wS B (Act.acts ls ps)) := by
        obtain ⟨m0, D, k1, k2⟩ := HS.out.ord
        exact ⟨m0, D, k1.kept hgr (fun he => by have := hown0 _ he.symm; have := HB0.out; omega), k2⟩
      have HMR : Hid (∀ y ∈ M, ReadersAt wS y.2 y.1.2) := fun y hy => ((HS.out.off y (hperm.mem_iff.1 hy)).kept hgr).at'
      have HNW : Hid (∀ y ∈ M, NewR w.heap.size y) := fun y hy => HS.out.nw y (hperm.mem_iff.1 hy)
      have HMZ : Hid (∀ y ∈ M, SzP y.1) := fun y hy => HSZ.out y (hperm.mem_iff.1 hy)
      have HML : Hid (M.length = n) := by show _ = _; rw [hperm.length_eq]; omega
      have HROW : Hid (0 < M.length → ao' = some ⟨g1, 0, none⟩ ∧ RowP wS g1 M ∧ g1 < wS.heap.size) := hrow
      have HFIN : Hid ((M.map (·.1)).Perm (x.map plainF) ∧ (M.map (·.1)).Pairwise (fun a b => a = b ∨ plt a b)) := ⟨by rw [← HL.out]; exact hperm.map _, List.Pairwise.map _ (fun a b h => h) hsort⟩
      clear hperm hsort hgr hrow hown0 hcall HL HSZ HS HN HX HSM HO HB0
      have HS1 : Hid (OutSt (Lab.coversB ls ps) wS wS (.slice none 0 0) [] M 0) := OutSt.start _ _ _
      go_wp2
      go_loopw [8, 28] (fun v i wr => ∃ j : Nat, j ≤ n ∧ i = .int .i64 j ∧ Hid (∃ O : List PV, OutSt (Lab.coversB ls ps) wS wr v O M j)) (fun _ i _ => n - (intOf i).toNat)
      case atStart => exact ⟨0, Nat.zero_le _, rfl, [], HS1.out⟩
      case round =>
        clear HS1
        obtain ⟨j, hj, rfl, HL⟩ := hrel
        obtain ⟨O, hS⟩ := HL.out
        have HS : Hid (OutSt (Lab.coversB ls ps) wS wr u8 O M j) := hS
        clear HL hS
        by_cases hlt2 : j < n
        · have hjl : j < M.length := by have := HML.out; omega
          obtain ⟨hao, hRow, hg1⟩ := HROW.out (by omega)
          have f0 := (HS.out.bel.cell (p := ⟨g1, j * 2, none⟩) hg1).trans (hRow.c0 j hjl)
          have f1 := (HS.out.bel.cell (p := ⟨g1, j * 2 + 1, none⟩) hg1).trans (hRow.c1 j hjl)
          have hrd := (HMR.out _ (List.getElem_mem hjl)).later HS.out.bel
          have hsz := HMZ.out _ (List.getElem_mem hjl)
          have hskip := fun (hS : OutSt (Lab.coversB ls ps) wS wr u8 O M j) => hS.skip hjl
          have hput := fun (hS : OutSt (Lab.coversB ls ps) wS wr u8 O M j) w4 v4 => hS.put (w4 := w4) (v4 := v4) hjl
          obtain ⟨p, hp⟩ : ∃ p, p = M[j] := ⟨_, rfl⟩
          rw [← hp] at f0 f1 hrd hsz hskip hput
          obtain ⟨⟨po, prs⟩, pv⟩ := p
          simp only at f0 f1 hrd hsz hskip hput
          obtain ⟨ro, rc, rn, hv0⟩ : ∃ ro rc rn, pv = .slice ro rn rc := by obtain ⟨ro, _, _, rc, h, _⟩ := hrd; exact ⟨ro, rc, _, h⟩
          subst hv0
          obtain ⟨N2, hN2⟩ : ∃ N2, N2 = O.length := ⟨_, rfl⟩
          obtain ⟨ao2, cap2, hv8⟩ := slice_of HS.out.own
          rw [← hN2] at hv8
          subst hv8
          have HLEN := HS.out.len
          have HOWN := HS.out.own
          rw [← hN2] at HLEN HOWN
          obtain ⟨wy, hwy⟩ : ∃ wy, wy = wr.alloc (.cells #[.string po, .slice ro rn rc] 63) := ⟨_, rfl⟩
          have hby : Below wr.heap.size wr wy := by rw [hwy]; exact (Below.refl _ _).alloc (Nat.le_refl _) _
          have hoz : ∀ q ∈ O.map (·.1), SzP q := by
            intro q hq
            obtain ⟨y, hy, e⟩ := List.mem_map.1 hq
            rw [← e]; exact HMZ.out y (HS.out.sub y hy)
          obtain ⟨b2, off2, hP⟩ := pols_own hN2 HOWN (HS.out.readers HMR.out)
          have hOrd : Ord wy B (Act.acts ls ps) := (HOS.out.later HS.out.bel).later hby
          have hcall := covered_any B ls ps (po, prs) (.slice ro rn rc) ao2 b2 off2 N2 cap2 (O.map (·.1)) wy hOrd (hrd.later hby) hsz (by rw [List.length_map]; exact hN2) (by omega) (hP.later hby) hoz
          have c0 : wr.cell? ⟨w.heap.size, 0, none⟩ = some (.map (some B)) := by
            have e := (HS.out.bel.block _ (lt_of_block HBX.out)).trans HBX.out
            simp [World.cell?, e]
          have l0 : w.heap.size < wr.heap.size := World.block_lt_of_cell? _ _ c0
          have HBY : Hid (Below wr.heap.size wr wy) := hby
          have HWY : Hid (wy = wr.alloc (.cells #[.string po, .slice ro rn rc] 63)) := hwy
          have HORD : Hid (Ord wy B (Act.acts ls ps)) := hOrd
          have HOZ : Hid (∀ q ∈ O.map (·.1), SzP q) := hoz
          have HRD : Hid (ReadersAt wr (.slice ro rn rc) prs) := hrd
          have HSZ : Hid (SzP (po, prs)) := hsz
          have HPM : Hid (((po, prs), Value.slice ro rn rc) ∈ M) := by rw [hp]; exact List.getElem_mem hjl
          have HSK : Hid (OutSt (Lab.coversB ls ps) wS wr (.slice ao2 N2 cap2) O M j → _) := hskip
          have HPU : Hid (OutSt (Lab.coversB ls ps) wS wr (.slice ao2 N2 cap2) O M j → _) := hput
          have HN2 : Hid (N2 = O.length) := hN2
          have HOW : Hid (wr.ownsRow wS.heap.size 63 2 (.slice ao2 N2 cap2) N2 (polC O)) := HOWN
          clear hRow hp hby hwy hoz hP hOrd hrd hsz hskip hput hN2 HOWN
          subst hao
          go_wp2_with fail
          rw [← HWY.out]
          refine hcall.mono ?_
          clear hcall
          rintro e w2 ⟨rfl, hb2⟩
          have HCE : Hid (Lab.coveredB ls ps (O.map (·.1)) (po, prs) = (O.map (·.1)).any fun q => Lab.coversB ls ps q (po, prs)) := rfl
          obtain ⟨t, ht⟩ : ∃ t, t = Lab.coveredB ls ps (O.map (·.1)) (po, prs) := ⟨_, rfl⟩
          rw [← ht]
          have HT : Hid (t = (O.map (·.1)).any fun q => Lab.coversB ls ps q (po, prs)) := ht
          have HB2 : Hid (Below wr.heap.size wr w2) := HBY.out.trans (hb2.mono HBY.out.size)
          have d1 : w2.cell? ⟨wr.heap.size, 0, none⟩ = some (.string po) := by
            have e : wy.heap[wr.heap.size]? = some (.cells #[.string po, .slice ro rn rc] 63 (0, 0)) := by rw [HWY.out]; exact heap_at_alloc _ _ _ rfl
            have e2 := (hb2.block _ (lt_of_block e)).trans e
            simp [World.cell?, e2]
          have d2 : w2.cell? ⟨wr.heap.size, 1, none⟩ = some (.slice ro rn rc) := by
            have e : wy.heap[wr.heap.size]? = some (.cells #[.string po, .slice ro rn rc] 63 (0, 0)) := by rw [HWY.out]; exact heap_at_alloc _ _ _ rfl
            have e2 := (hb2.block _ (lt_of_block e)).trans e
            simp [World.cell?, e2]
          clear hb2 ht HCE
          cases t with
          | true =>
            have HN3 : Hid (∃ O : List PV, OutSt (Lab.coversB ls ps) wS w2 (.slice ao2 N2 cap2) O M (j + 1)) := ⟨O, (HSK.out HS.out HT.out.symm).later HB2.out⟩
            go_wp2
            go_roundw
            case rel => exact ⟨j + 1, by omega, by go_num, HN3⟩
            case measure => simp [intOf]; omega
          | false =>
            obtain ⟨b1, hb1⟩ : ∃ b1, b1 = wr.heap.size := ⟨_, rfl⟩
            obtain ⟨K, hK⟩ : ∃ K, K = keepT (Lab.coversB ls ps (po, prs)) O := ⟨_, rfl⟩
            have hKl : K.length ≤ N2 := by rw [hK, HN2.out]; exact List.length_filter_le _ _
            have hlo : ∀ k, (Value.slice ao2 N2 cap2).ownBlock = some k → wS.heap.size ≤ k ∧ k < wr.heap.size := fun k he => HOW.out.lt _ he
            have hBS : B < wS.heap.size := HOS.out.lt
            have lS : w.heap.size < wS.heap.size := lt_of_block HBX.out
            have HD : ∀ W, Below w2.heap.size w2 W → Calls Tryz.prog 96 #[.slice ao2 N2 cap2, .func (.func 94) #[] #[.pointer (some ⟨w.heap.size, 0, none⟩), .pointer (some ⟨wr.heap.size, 0, none⟩)]] W fun e w' => e = .returned (.slice ao2 K.length cap2) ∧ w'.ownsRow wS.heap.size 63 2 (.slice ao2 K.length cap2) K.length (polC K) ∧ W.grownBy w' (Value.slice ao2 N2 cap2).ownBlock := by
              intro W hW
              rw [hK]
              have hSW : OutSt (Lab.coversB ls ps) wS W (.slice ao2 N2 cap2) O M j := (HS.out.later HB2.out).later hW
              have e0 : W.cell? ⟨w.heap.size, 0, none⟩ = some (.map (some B)) := by
                have e := (hSW.bel.block _ (lt_of_block HBX.out)).trans HBX.out
                simp [World.cell?, e]
              have l2 : wr.heap.size < w2.heap.size := World.block_lt_of_cell? _ _ d1
              have e1 := (hW.cell (p := ⟨wr.heap.size, 0, none⟩) l2).trans d1
              have e2 := (hW.cell (p := ⟨wr.heap.size, 1, none⟩) l2).trans d2
              have hOW : W.ownsRow wS.heap.size 63 2 (.slice ao2 N2 cap2) N2 (polC O) := by have h9 := hSW.own; rw [← HN2.out] at h9; exact h9
              refine delF 94 _ (enters_of Tryz.func94 (by kernel_rfl) rfl) (Lab.coversB ls ps (po, prs)) wS.heap.size ao2 N2 cap2 O W HN2.out (by omega) hOW (hSW.off HMR.out) ?_
              intro W' q u hq hu hgr
              refine spare_any B ls ps w.heap.size wr.heap.size (po, prs) q u (.slice ro rn rc) W' ?_ hu ?_ (HOZ.out q hq) HSZ.out ?_ ?_ ?_
              · obtain ⟨m0, D, k1, k2⟩ := HOS.out.later hSW.bel
                exact ⟨m0, D, k1.kept hgr (fun he => by have := hlo _ he.symm; omega), k2⟩
              · obtain ⟨a1, a2, a3, a4, k1, k2, k3, k4⟩ := HMR.out ((po, prs), .slice ro rn rc) HPM.out
                refine ⟨a1, a2, a3, a4, k1, k2, k3, strs_kept (k4.later hSW.bel) hgr (fun hp he => ?_)⟩
                have q1 := k4.lt hp
                have q2 := (hlo _ he.symm).1
                omega
              · rw [hgr.cell_far _ (World.block_lt_of_cell? _ _ e0) (fun he => by have := (hlo _ he.symm).1; simp only at this; omega)]; exact e0
              · rw [hgr.cell_far _ (World.block_lt_of_cell? _ _ e1) (fun he => by have := (hlo _ he.symm).2; simp only at this; omega)]; exact e1
              · rw [hgr.cell_far _ (World.block_lt_of_cell? _ _ e2) (fun he => by have := (hlo _ he.symm).2; simp only at this; omega)]; exact e2
            have HDD : Hid (∀ W, Below w2.heap.size w2 W → Calls Tryz.prog 96 #[.slice ao2 N2 cap2, .func (.func 94) #[] #[.pointer (some ⟨w.heap.size, 0, none⟩), .pointer (some ⟨wr.heap.size, 0, none⟩)]] W fun e w' => e = .returned (.slice ao2 K.length cap2) ∧ w'.ownsRow wS.heap.size 63 2 (.slice ao2 K.length cap2) K.length (polC K) ∧ W.grownBy w' (Value.slice ao2 N2 cap2).ownBlock) := HD
            clear HD
            have HKK : Hid (K = keepT (Lab.coversB ls ps (po, prs)) O) := hK
            have l2 : wr.heap.size < w2.heap.size := World.block_lt_of_cell? _ _ d1
            have HCELL : Hid (∀ W w3, Below w2.heap.size w2 W → W.grownBy w3 (Value.slice ao2 N2 cap2).ownBlock → w3.cell? ⟨wr.heap.size, 0, none⟩ = some (.string po) ∧ w3.cell? ⟨wr.heap.size, 1, none⟩ = some (.slice ro rn rc)) := by
              intro W w3 hW hgr
              have e1 := (hW.cell (p := ⟨wr.heap.size, 0, none⟩) l2).trans d1
              have e2 := (hW.cell (p := ⟨wr.heap.size, 1, none⟩) l2).trans d2
              refine ⟨?_, ?_⟩
              · rw [hgr.cell_far _ (World.block_lt_of_cell? _ _ e1) (fun he => by have := (hlo _ he.symm).2; simp only at this; omega)]; exact e1
              · rw [hgr.cell_far _ (World.block_lt_of_cell? _ _ e2) (fun he => by have := (hlo _ he.symm).2; simp only at this; omega)]; exact e2
            have HCELL2 : Hid (∀ w3 W3 w4, w3.cell? ⟨wr.heap.size, 0, none⟩ = some (.string po) → w3.cell? ⟨wr.heap.size, 1, none⟩ = some (.slice ro rn rc) → Below w3.heap.size w3 W3 → W3.grownBy w4 (Value.slice ao2 K.length cap2).ownBlock → w4.cell? ⟨wr.heap.size, 0, none⟩ = some (.string po) ∧ w4.cell? ⟨wr.heap.size, 1, none⟩ = some (.slice ro rn rc)) := by
              intro w3 W3 w4 q1 q2 hW hgr
              rw [own_same ao2 K.length N2 cap2 cap2] at hgr
              have e1 := (hW.cell (p := ⟨wr.heap.size, 0, none⟩) (World.block_lt_of_cell? _ _ q1)).trans q1
              have e2 := (hW.cell (p := ⟨wr.heap.size, 1, none⟩) (World.block_lt_of_cell? _ _ q2)).trans q2
              refine ⟨?_, ?_⟩
              · rw [hgr.cell_far _ (World.block_lt_of_cell? _ _ e1) (fun he => by have := (hlo _ he.symm).2; simp only at this; omega)]; exact e1
              · rw [hgr.cell_far _ (World.block_lt_of_cell? _ _ e2) (fun he => by have := (hlo _ he.symm).2; simp only at this; omega)]; exact e2
            have HNEW : Hid (∀ w3, (w2.drew.alloc (.cells #[.string po, .slice ro rn rc] 63)).grownBy w3 (Value.slice ao2 N2 cap2).ownBlock → ∀ i u, [.string po, .slice ro rn rc][i]? = some u → w3.cell? ((⟨w2.heap.size, 0, none⟩ : Addr).add i) = some u) := by
              intro w3 hgr i u hu
              have e := two_new w2.drew (.string po) (.slice ro rn rc) 63 i u hu
              have e2 := hgr.cell_far ((⟨w2.heap.size, 0, none⟩ : Addr).add i) (World.block_lt_of_cell? _ _ e) (fun he => by
                have := (hlo _ he.symm).2
                have e3 : ((⟨w2.heap.size, 0, none⟩ : Addr).add i).block = w2.heap.size := by unfold Addr.add; split <;> simp_all
                omega)
              exact e2.trans e
            have HEND : Hid (∀ W w3 W3 w4 v4, Below w2.heap.size w2 W → W.grownBy w3 (Value.slice ao2 N2 cap2).ownBlock → Below w3.heap.size w3 W3 → W3.grownBy w4 (Value.slice ao2 K.length cap2).ownBlock → w4.ownsRow wS.heap.size 63 2 v4 (K.length + 1) (polC K ++ [.string po, .slice ro rn rc]) → ∃ O : List PV, OutSt (Lab.coversB ls ps) wS w4 v4 O M (j + 1)) := by
              intro W w3 W3 w4 v4 h1 h2 h3 h4 h5
              rw [own_same ao2 K.length N2 cap2 cap2] at h4
              rw [hK] at h5
              have g1 : Below wS.heap.size wS W := HS.out.bel.trans ((HB2.out.mono HS.out.bel.size).trans (h1.mono (Nat.le_trans HS.out.bel.size HB2.out.size)))
              have g2 : Below wS.heap.size wS w3 := g1.grown h2 g1.size (fun k he => (hlo k he).1)
              have g3 : Below wS.heap.size wS W3 := g2.trans (h3.mono g2.size)
              exact ⟨_, HPU.out HS.out w4 v4 HT.out.symm (g3.grown h4 g3.size (fun k he => (hlo k he).1)) h5⟩
            have hwb : wS.heap.size ≤ w2.heap.size := Nat.le_trans HS.out.bel.size HB2.out.size
            have h1c : ∀ u ∈ [Value.string po, Value.slice ro rn rc], u.oneCell' = true := by intro u hu; simp at hu; rcases hu with rfl | rfl <;> rfl
            have h63 : K.length + 1 ≤ maxLen := by unfold maxLen; omega
            have h40 : (K.length + 1) * 40 ≤ 140737488355328 := by omega
            clear hK hlo hb1 HS HT HPU HSK HORD HWY HBY HOW HOZ HRD HSZ HPM
            go_upto_region 14 with fail
            go_region_held3 (fun w' => w'.cell? ⟨wr.heap.size, 0, none⟩ = some (.string po) ∧ w'.cell? ⟨wr.heap.size, 1, none⟩ = some (.slice ro rn rc)) (go_keep)
              (first
                | (go_at_call 96; refine (HDD.out w2.drew (below_drew w2)).mono ?_; rintro e w3 ⟨rfl, ho3, hg3⟩; obtain ⟨y1, y2⟩ := HCELL.out _ _ (below_drew _) hg3; have HO3 : Hid (w3.ownsRow wS.heap.size 63 2 (.slice ao2 K.length cap2) K.length (polC K)) := ho3; have HG3 : Hid (w2.drew.grownBy w3 (Value.slice ao2 N2 cap2).ownBlock) := hg3; have hw3 : w2.heap.size ≤ w3.heap.size := hg3.size; clear ho3 hg3)
                | (go_at_call 96; refine (HDD.out (w2.drew.alloc (.cells #[.string po, .slice ro rn rc] 63)) (below_drew_alloc w2 _)).mono ?_; rintro e w3 ⟨rfl, ho3, hg3⟩; obtain ⟨y1, y2⟩ := HCELL.out _ _ (below_drew_alloc _ _) hg3; have HO4 : Hid (w3.ownsRow wS.heap.size 63 2 (.slice ao2 K.length cap2) K.length (polC K)) := ho3; have HG4 : Hid ((w2.drew.alloc (.cells #[.string po, .slice ro rn rc] 63)).grownBy w3 (Value.slice ao2 N2 cap2).ownBlock) := hg3; have hw3 : w2.heap.size + 1 ≤ w3.heap.size := (by have h9 := hg3.size; simpa using h9); clear ho3 hg3)
                | (refine step_append_lies _ rfl _ _ _ rfl wS.heap.size 63 i0 (.agg #[.string ⟨#[]⟩, .slice none 0 0]) 2 40 Tryz.underlying34 hi hz0 hz1 hz2 rfl Nat.two_pos (.slice ao2 K.length cap2) K.length (polC K) rfl (World.ownsRow.alloc HO3.out _) ⟨w3.heap.size, 0, none⟩ 1 1 [.string po, .slice ro rn rc] rfl rfl (two_new _ _ _ _) h1c Nat.one_pos h63 h40 (Nat.le_trans (Nat.le_trans hwb hw3) ((Below.refl w3.heap.size w3).alloc (Nat.le_refl _) _).size) _ rfl ?_; intro g cap w4 hown4 hgrow4 hat4 hlt4; have HN3 : Hid (∃ O : List PV, OutSt (Lab.coversB ls ps) wS w4 (.slice (some ⟨g, 0, none⟩) (K.length + 1) cap) O M (j + 1)) := HEND.out _ _ _ w4 _ (below_drew _) HG3.out ((Below.refl _ _).alloc (Nat.le_refl _) _) hgrow4 hown4; obtain ⟨y3, y4⟩ := HCELL2.out w3 _ w4 y1 y2 ((Below.refl _ _).alloc (Nat.le_refl _) _) hgrow4; clear hown4 hgrow4 hat4)
                | (refine step_append_lies _ rfl _ _ _ rfl wS.heap.size 63 i0 (.agg #[.string ⟨#[]⟩, .slice none 0 0]) 2 40 Tryz.underlying34 hi hz0 hz1 hz2 rfl Nat.two_pos (.slice ao2 K.length cap2) K.length (polC K) rfl HO4.out ⟨w2.heap.size, 0, none⟩ 1 1 [.string po, .slice ro rn rc] rfl rfl (HNEW.out _ HG4.out) h1c Nat.one_pos h63 h40 (Nat.le_trans hwb (Nat.le_of_succ_le hw3)) _ rfl ?_; intro g cap w4 hown4 hgrow4 hat4 hlt4; have HN3 : Hid (∃ O : List PV, OutSt (Lab.coversB ls ps) wS w4 (.slice (some ⟨g, 0, none⟩) (K.length + 1) cap) O M (j + 1)) := HEND.out _ _ _ w4 _ (below_drew_alloc _ _) HG4.out (Below.refl _ _) hgrow4 hown4; obtain ⟨y3, y4⟩ := HCELL2.out w3 _ w4 y1 y2 (Below.refl _ _) hgrow4; clear hown4 hgrow4 hat4))
            all_goals go_wp2
            all_goals go_roundw
            all_goals first | exact ⟨j + 1, by omega, by go_num, HN3⟩ | (simp [intOf]; omega)
        · have hjn : j = n := by omega
          have HOW : Hid (∃ (M : List PV) (R : List Pol), wr.ownsRow w.heap.size 63 2 u8 M.length (polC M) ∧ (∀ y ∈ M, ReadersAt wr y.2 y.1.2 ∧ NewR w.heap.size y) ∧ R.Perm (x.map plainF) ∧ R.Pairwise (fun a b => a = b ∨ plt a b) ∧ M.map (·.1) = R.foldl (Lab.stepN (Lab.coversB ls ps)) [] ∧ Below w.heap.size w wr) := by
            refine ⟨O, M.map (·.1), ownsRow_le' HS.out.own HBS.out.size, fun y hy => ⟨HS.out.readers HMR.out y hy, HNW.out y (HS.out.sub y hy)⟩, HFIN.out.1, HFIN.out.2, ?_, HBS.out.trans (HS.out.bel.mono HBS.out.size)⟩
            have h9 := HS.out.fold
            rw [List.take_of_length_le (by have := HML.out; omega)] at h9
            exact h9
          clear HS HFIN HML HMR HMZ HROW
          go_wp2
          go_ret
          obtain ⟨M, R, h⟩ := HOW.out
          exact ⟨u8, M, R, rfl, h⟩
end Go.Proofs.YtpbknhhjfhpkmaaGreatDoor

namespace Go.Proofs.YtpbknhhjfhpkmaaGreatDoor
open Go.RowKit

theorem of_clean {ls : List ByteArray} {x : List Pol} (hx : Lab.OfL ls x) {c : Pol} (hc : Lab.cleaned blt x c) : Lab.Of ls c := by
  obtain ⟨p, hp, h⟩ := hc
  exact ⟨by rw [h.own]; exact (hx p hp).1, fun r hr => (hx p hp).2 r ((h.mem r).1 hr).1⟩
theorem clean_plain {x : List Pol} {c : Pol} : c ∈ x.map plainF ↔ Lab.cleaned blt x c := by
  rw [List.mem_map]
  constructor
  · rintro ⟨p, hp, rfl⟩; exact ⟨p, hp, plainF_clean p⟩
  · rintro ⟨p, hp, h⟩; exact ⟨p, hp, Lab.clean_unique blt_order (plainF_clean p) h⟩
theorem norm_of_rows {ls : List ByteArray} {ps : List (ByteArray × ByteArray)} {x R : List Pol} (hr : Act.Right ls ps) (hx : Lab.OfL ls x) (hp : R.Perm (x.map plainF)) (hs : R.Pairwise (fun a b => a = b ∨ plt a b)) : Lab.Norm blt plt ps x (R.foldl (Lab.stepN (Lab.coversB ls ps)) []) := by
  have hR : ∀ c, c ∈ R ↔ Lab.cleaned blt x c := fun c => hp.mem_iff.trans clean_plain
  exact Lab.norm_fold plt_order hR hs (fun a ha b hb => Lab.covers_iff hr (of_clean hx ((hR a).1 ha)) (of_clean hx ((hR b).1 hb)))
theorem smallP_of {ls : List ByteArray} {ps : List (ByteArray × ByteArray)} {x : List Pol} (h : checkF ls ps = 0) (hx : Lab.OfL ls x) (h6 : ∀ p ∈ x, p.2.length ≤ 6) : ∀ p ∈ x, SmallP p := by
  obtain ⟨_, _, _, hn⟩ := right_of h
  have hz : ∀ s ∈ ls, s.size ≤ 100000 := fun s hs => by have := name_short (hn s hs); omega
  intro p hp
  exact ⟨hz _ (hx p hp).1, h6 p hp, fun r hr => hz _ ((hx p hp).2 r hr)⟩

/- A label that a call hands back. -/
def LabNew (w : World) (base : Nat) (v : Value) (y : List Pol) : Prop := ∃ M : List PV, M.map (·.1) = y ∧ w.ownsRow base 63 2 v y.length (polC M) ∧ ∀ z ∈ M, ReadersAt w z.2 z.1.2
/- The same, its readers new. -/
def LabNw (w : World) (base : Nat) (v : Value) (y : List Pol) : Prop := ∃ M : List PV, M.map (·.1) = y ∧ w.ownsRow base 63 2 v y.length (polC M) ∧ ∀ z ∈ M, ReadersAt w z.2 z.1.2 ∧ NewR base z
theorem LabNw.new {w : World} {base : Nat} {v : Value} {y : List Pol} (h : LabNw w base v y) : LabNew w base v y := by
  obtain ⟨M, h1, h2, h3⟩ := h
  exact ⟨M, h1, h2, fun z hz => (h3 z hz).1⟩
theorem LabNew.at' {w : World} {base : Nat} {v : Value} {y : List Pol} (h : LabNew w base v y) (hs : ∀ p ∈ y, SmallP p) : ∃ ao b off cap, v = .slice ao y.length cap ∧ LabAt w ao b off y.length cap y := by
  obtain ⟨M, rfl, ho, hr⟩ := h
  obtain ⟨ao, cap, hv⟩ := slice_of ho
  subst hv
  have hc := own_cap ho
  obtain ⟨b, off, hp⟩ := pols_own (List.length_map (·.1)) ho hr
  refine ⟨ao, b, off, cap, rfl, rfl, Nat.le_trans hc.1 hc.2, hc.1, hp, fun p hp => ?_⟩
  have h := hs p hp
  exact ⟨Nat.le_trans h.own (by unfold maxLen; omega), fun r hr => Nat.le_trans (h.rd r hr) (by unfold maxLen; omega)⟩

theorem normalN (B : Nat) (ls : List ByteArray) (ps : List (ByteArray × ByteArray)) (ao : Option Addr) (b off n c : Nat) (x : List Pol) (w : World) (h0 : checkF ls ps = 0) (hof : Lab.OfL ls x) (h6 : ∀ p ∈ x, p.2.length ≤ 6) (ho : Ord w B (Act.acts ls ps)) (hn : n = x.length) (hm : n ≤ 1000) (hx : Pols w ao b off x) :
    Calls Tryz.prog 56 #[.map (some B), .slice ao n c] w fun e w' => ∃ (v : Value) (y : List Pol), e = .returned v ∧ Lab.Norm blt plt ps x y ∧ LabNw w' w.heap.size v y ∧ Below w.heap.size w w' := by
  refine (normalC B ls ps ao b off n c x w ho hn hm hx (smallP_of h0 hof h6)).mono ?_
  rintro e w' ⟨v, M, R, rfl, h1, h2, h3, h4, h5, h7⟩
  refine ⟨v, M.map (·.1), rfl, ?_, ⟨M, rfl, by rw [List.length_map]; exact h1, h2⟩, h7⟩
  rw [h5]
  exact norm_of_rows (right_of h0).2.2.1 hof h3 h4

set_option maxRecDepth 100000 in
set_option maxHeartbeats 2000000 in
theorem normC (ao po lo : Option Addr) (b off b' off' n m c d lb loff ln lc : Nat) (ls : List ByteArray) (ps : List (ByteArray × ByteArray)) (x : List Pol) (w : World) (hc : Chiefs w ao po b off b' off' n m c ls ps) (hx : LabAt w lo lb loff ln lc x) :
    Calls Tryz.prog 22 #[.slice ao n c, .slice po m d, .slice lo ln lc] w fun e w' => ∃ (v : Value) (y : List Pol), e = .returned (.tuple #[v, .int .i64 (checkL ls ps x)]) ∧ (checkL ls ps x = 0 → Lab.Norm blt plt ps x y) ∧ LabNw w' w.heap.size v y ∧ Below w.heap.size w w' := by
  have hk0 := checkLab ao po lo b off b' off' n m c d lb loff ln lc ls ps x w hc hx
  have HC : Hid (Chiefs w ao po b off b' off' n m c ls ps) := hc
  have HX : Hid (LabAt w lo lb loff ln lc x) := hx
  clear hc hx
  by_cases h0 : checkL ls ps x = 0
  · have HCK : Hid (checkF ls ps = 0 ∧ x.length ≤ 200 ∧ Lab.OfL ls x ∧ ∀ p ∈ x, p.2.length ≤ 6) := checkL_ok h0
    rw [h0]
    rw [h0] at hk0
    clear h0
    go_enter Tryz.func22, Tryz.ntmps22
    go_wp2_with fail
    refine hk0.mono ?_
    rintro e w1 ⟨rfl, hb1⟩
    have HB1 : Hid (Below w.heap.size w w1) := hb1
    have hwh := wholeL ao po b off b' off' n m c d ls ps w1 (HC.out.later hb1) HCK.out.1
    clear hb1 hk0
    go_wp2_with fail
    refine hwh.mono ?_
    rintro e w2 ⟨rfl, hord, hb2⟩
    have HB2 : Hid (Below w.heap.size w w2) := HB1.out.trans (hb2.mono HB1.out.size)
    have hno := normalN w1.heap.size ls ps lo lb loff ln lc x w2 HCK.out.1 HCK.out.2.2.1 HCK.out.2.2.2 hord HX.out.ln (by have h1 := HCK.out.2.1; have h2 := HX.out.ln; omega) (HX.out.pols.later HB2.out)
    clear hord hb2 hwh
    go_wp2_with fail
    refine hno.mono ?_
    rintro e w3 ⟨v, y, rfl, hy, hl, hb3⟩
    have HF : Hid (Lab.Norm blt plt ps x y ∧ LabNw w3 w.heap.size v y ∧ Below w.heap.size w w3) := ⟨hy, by
      obtain ⟨M, k1, k2, k3⟩ := hl
      exact ⟨M, k1, ownsRow_le' k2 HB2.out.size, fun z hz => ⟨(k3 z hz).1, (k3 z hz).2.mono HB2.out.size⟩⟩, HB2.out.trans (hb3.mono HB2.out.size)⟩
    clear hy hl hb3 hno
    go_wp2
    go_ret2
    exact ⟨v, y, rfl, fun _ => HF.out.1, HF.out.2.1, HF.out.2.2⟩
  · obtain ⟨e0, he0⟩ : ∃ e0, e0 = checkL ls ps x := ⟨_, rfl⟩
    rw [← he0] at hk0 h0 ⊢
    have hb : (e0 == 0) = false := by simp [h0]
    have hb' : (e0 != 0) = true := by simp [h0]
    have HH : Hid (¬ e0 = 0) := h0
    clear h0 he0
    go_enter Tryz.func22, Tryz.ntmps22
    go_wp2_with fail
    refine hk0.mono ?_
    rintro e w1 ⟨rfl, hb1⟩
    have HB1 : Hid (Below w.heap.size w w1) := hb1
    clear hb1 hk0
    go_wp2
    go_ret2
    exact ⟨_, [], rfl, fun h => absurd h HH.out, ⟨[], rfl, World.ownsRow_nil _ _ _ _, fun z hz => by cases hz⟩, HB1.out⟩
end Go.Proofs.YtpbknhhjfhpkmaaGreatDoor

namespace Go.Proofs.YtpbknhhjfhpkmaaGreatDoor
open Go.RowKit

set_option maxRecDepth 100000 in
set_option maxHeartbeats 1000000 in
theorem growN_zero (w : World) :
    Calls Tryz.prog 61 #[.slice none 0 0, .int .i64 0] w fun e w' => e = .returned (.slice none 0 0) ∧ w' = w := by
  go_enter Tryz.func61, Tryz.ntmps61
  go_wp2
  go_ret
  exact ⟨rfl, rfl⟩

set_option maxRecDepth 100000 in
set_option maxHeartbeats 1000000 in
theorem growN_some (N : Nat) (w : World) (h0 : 0 < N) (hb : N * 40 ≤ 281474976710656) :
    Calls Tryz.prog 61 #[.slice none 0 0, .int .i64 N] w fun e w' => ∃ G, e = .returned (.slice (some ⟨w.heap.size, 0, none⟩) 0 G) ∧ N ≤ G ∧ w'.ownsRow w.heap.size 63 2 (.slice (some ⟨w.heap.size, 0, none⟩) 0 G) 0 [] ∧ Below w.heap.size w w' := by
  obtain ⟨i0, hi, hz0, hz1, hz2⟩ := info_parts Tryz.infoPolD
  have hnx : Builtin.nextslicecap (0 + N) 0 = N := by unfold Builtin.nextslicecap; rw [if_pos (by omega)]; omega
  have hrz : ∀ ty, (Builtin.append_ #[34, 3] ty #[.slice none 0 0, .int .i64 (N : Int)]).run Tryz.prog w =
      .ok (.slice (some ⟨w.heap.size, 0, none⟩) (0 + N) (grownCap w (0 + N) 0 63)) (w.drew.alloc (.cells (([] : List Value).toArray ++ Builtin.zeroCells #[.string ⟨#[]⟩, .slice none 0 0] N ++ Builtin.zeroCells #[.string ⟨#[]⟩, .slice none 0 0] (grownCap w (0 + N) 0 63 - (0 + N))) 63)) := fun ty =>
    Lib.run_append_grow_zeros w 34 3 ty 63 i0 _ .i64 .i64 Tryz.underlying34 Tryz.underlying3 hi hz0 none 0 0 [] (by simp [Builtin.firstCells]) N h0 (by omega) (by omega) (by omega) (by rw [hz2]; exact hb) (by rw [hnx, hz2]; exact hb)
  have hGn : 0 + N ≤ grownCap w (0 + N) 0 63 := grownCap_ge w _ _ _
  have hGm : grownCap w (0 + N) 0 63 ≤ maxLen := grownCap_le_maxLen w (0 + N) 0 63 (by unfold maxLen; omega)
  rw [Nat.zero_add] at hrz hGn hGm
  obtain ⟨G, hG⟩ : ∃ G, G = grownCap w N 0 63 := ⟨_, rfl⟩
  rw [← hG] at hrz hGn hGm
  obtain ⟨cs, hcs⟩ : ∃ cs, cs = ([] : List Value).toArray ++ Builtin.zeroCells #[.string ⟨#[]⟩, .slice none 0 0] N ++ Builtin.zeroCells #[.string ⟨#[]⟩, .slice none 0 0] (G - N) := ⟨_, rfl⟩
  rw [← hcs] at hrz
  have hcz : cs.size = G * 2 := by
    rw [hcs]; simp [Builtin.zeroCells]; omega
  have HO : Hid ((w.drew.alloc (.cells cs 63)).ownsRow w.heap.size 63 2 (.slice (some ⟨w.heap.size, 0, none⟩) 0 G) 0 []) :=
    ⟨rfl, .inr ⟨w.heap.size, G, cs, rfl, Nat.le_refl _, heap_at_alloc _ _ _ rfl, Nat.zero_le _, hGm, hcz, by simp⟩⟩
  have HB : Hid (Below w.heap.size w (w.drew.alloc (.cells cs 63))) := by
    have h : Below w.heap.size w w.drew := ⟨rfl, rfl, rfl, Nat.le_refl _, fun _ _ => rfl⟩
    exact h.alloc (Nat.le_refl _) _
  have p1 : (0 : Int) < (N : Int) := by omega
  have HGN : Hid (N ≤ G) := hGn
  have hNb : N ≤ 8796093022208 := by omega
  unfold maxLen at hGm
  clear hnx hG hcs hcz hb hGn
  go_enter Tryz.func61, Tryz.ntmps61
  go_wp2_with (at_builtin; refine Lib.wpList_append_run _ rfl _ _ _ _ rfl _ _ rfl rfl _ _ (hrz _) ?_)
  all_goals (go_ret; exact ⟨G, rfl, HGN.out, HO.out, HB.out⟩)

theorem appendN_none (base xo : Option Addr) (n c xc : Nat) (ty : TypeId) (w : World) (hn : n ≤ c) : (Builtin.append_ #[34, 34] ty #[.slice base n c, .slice xo 0 xc]).run Tryz.prog w = .ok (.slice base n c) w := by
  cases base <;> cases xo <;> simp [Builtin.append_, run_underlying Tryz.underlying34, go_sem, hn, Builtin.firstCells, Builtin.lenOf, storeCells]

def catUpN (ps qs : List PV) : Nat → List PV
  | 0 => []
  | 1 => ps
  | _ => ps ++ qs
def sumUpN (m r : Nat) : Nat → Nat
  | 0 => 0
  | 1 => m
  | _ => m + r
theorem sumUpN_le (m r j : Nat) : sumUpN m r j ≤ m + r := by
  match j with
  | 0 => simp [sumUpN]
  | 1 => simp [sumUpN]
  | _ + 2 => simp [sumUpN]
/- The new row, as it is filled. -/
def CatStN (w wr : World) (v : Value) (l : List PV) (N : Nat) : Prop :=
  Below w.heap.size w wr ∧ ((N = 0 ∧ v = .slice none 0 0) ∨ ∃ g G, v = .slice (some ⟨g, 0, none⟩) l.length G ∧ N ≤ G ∧ w.heap.size ≤ g ∧ wr.ownsRow w.heap.size 63 2 v l.length (polC l))
/- A row of policies with their values. -/
structure PRow (w : World) (ao : Option Addr) (b off : Nat) (L : List PV) : Prop where
  adr : 0 < L.length → ao = some ⟨b, off, none⟩
  c0 : ∀ k (h : k < L.length), w.cell? ⟨b, off + k * 2, none⟩ = some (.string L[k].1.1)
  c1 : ∀ k (h : k < L.length), w.cell? ⟨b, off + k * 2 + 1, none⟩ = some L[k].2
  lt : 0 < L.length → b < w.heap.size
  rd : ∀ y ∈ L, ReadersAt w y.2 y.1.2
theorem PRow.later {w w' : World} {ao : Option Addr} {b off : Nat} {L : List PV} (h : PRow w ao b off L) (hb : Below w.heap.size w w') : PRow w' ao b off L :=
  ⟨h.adr, fun k hk => (hb.cell (p := ⟨b, off + k * 2, none⟩) (h.lt (by omega))).trans (h.c0 k hk), fun k hk => (hb.cell (p := ⟨b, off + k * 2 + 1, none⟩) (h.lt (by omega))).trans (h.c1 k hk), fun hp => Nat.lt_of_lt_of_le (h.lt hp) hb.size, fun y hy => (h.rd y hy).later hb⟩
theorem prow_of {w : World} {ao : Option Addr} {b off : Nat} {x : List Pol} (h : Pols w ao b off x) : ∃ L : List PV, L.map (·.1) = x ∧ PRow w ao b off L := by
  classical
  have hv : ∀ k : Fin x.length, ∃ v, w.cell? ⟨b, off + k.1 * 2 + 1, none⟩ = some v ∧ ReadersAt w v x[k.1].2 := fun k => h.c1 k.1 k.2
  let f := fun k => Classical.choose (hv k)
  have hf : ∀ k, w.cell? ⟨b, off + k.1 * 2 + 1, none⟩ = some (f k) ∧ ReadersAt w (f k) x[k.1].2 := fun k => Classical.choose_spec (hv k)
  refine ⟨List.ofFn fun k : Fin x.length => (x[k.1], f k), ?_, ?_⟩
  · apply List.ext_getElem
    · simp
    · intro i h1 h2; simp
  · refine ⟨fun hp => h.adr (by simpa using hp), fun k hk => ?_, fun k hk => ?_, fun hp => h.lt (by simpa using hp), fun y hy => ?_⟩
    · have hk' : k < x.length := by simpa using hk
      have := h.c0 k hk'
      simpa using this
    · have hk' : k < x.length := by simpa using hk
      have := (hf ⟨k, hk'⟩).1
      simpa using this
    · obtain ⟨k, rfl⟩ := List.mem_ofFn.1 hy
      exact (hf k).2
theorem prow_one {w : World} {ao : Option Addr} {b off : Nat} {L : List PV} (h : PRow w ao b off L) : ∀ u ∈ polC L, u.oneCell' = true := by
  intro u hu
  simp only [polC, List.mem_flatMap] at hu
  obtain ⟨y, hy, hp⟩ := hu
  simp [encP] at hp
  rcases hp with rfl | rfl
  · rfl
  · obtain ⟨ro, _, _, rc, e, _⟩ := h.rd y hy
    rw [e]; rfl
theorem prow_cells_off {w : World} {b off : Nat} {l : List PV} {ao : Option Addr} (h : PRow w ao b off l) : ∀ j u, (polC l)[j]? = some u → w.cell? ((⟨b, off, none⟩ : Addr).add j) = some u := by
  intro j u hu
  have e1 : (⟨b, off, none⟩ : Addr).add j = ⟨b, off + j, none⟩ := by simp [Addr.add]
  rw [e1]
  have hj : j < l.length * 2 := by
    have := (List.getElem?_eq_some_iff.1 hu).1
    rwa [polC_len] at this
  have hk : j / 2 < l.length := by omega
  obtain ⟨h0, h1⟩ := polC_at l (j / 2) hk
  rcases Nat.mod_two_eq_zero_or_one j with e | e
  · have ej : j = j / 2 * 2 := by omega
    rw [← ej, hu] at h0
    have := h.c0 (j / 2) hk
    rw [← ej] at this
    rw [this, h0]
  · have ej : j = j / 2 * 2 + 1 := by omega
    rw [← ej, hu] at h1
    have := h.c1 (j / 2) hk
    rw [Nat.add_assoc, ← ej] at this
    rw [this, h1]

set_option maxRecDepth 100000 in
set_option maxHeartbeats 2000000 in
theorem concatN (sb : Nat) (po qo : Option Addr) (b off b' off' m r d d' : Nat) (ps qs : List PV) (w : World) (hm : m = ps.length) (hr : r = qs.length) (hb : (m + r) * 40 ≤ 281474976710656)
    (s0 : w.cell? ⟨sb, 0, none⟩ = some (.slice po m d)) (s1 : w.cell? ⟨sb, 1, none⟩ = some (.slice qo r d')) (ls : sb < w.heap.size) (hp : PRow w po b off ps) (hq : PRow w qo b' off' qs) :
    Calls Tryz.prog 27 #[.slice (some ⟨sb, 0, none⟩) 2 2] w fun e w' => ∃ v, e = .returned v ∧ w'.ownsRow w.heap.size 63 2 v (ps ++ qs).length (polC (ps ++ qs)) ∧ Below w.heap.size w w' := by
  have HM : Hid (m = ps.length) := hm
  have HR : Hid (r = qs.length) := hr
  obtain ⟨i0, hi, hz0, hz1, hz2⟩ := info_parts Tryz.infoPolD
  have hmb : m + r ≤ 8796093022208 := by omega
  have HB : Hid ((m + r) * 40 ≤ 281474976710656) := hb
  have S0 : Hid (w.cell? ⟨sb, 0, none⟩ = some (.slice po m d)) := s0
  have S1 : Hid (w.cell? ⟨sb, 1, none⟩ = some (.slice qo r d')) := s1
  clear hm hr hb s0 s1
  go_enter Tryz.func27, Tryz.ntmps27
  go_wp2
  go_loopw [3, 11] (fun v i wr => ∃ j : Nat, j ≤ 2 ∧ i = .int .i64 j ∧ v = .int .i64 (sumUpN m r j : Nat) ∧ wr = w) (fun _ i _ => 2 - (intOf i).toNat)
  case atStart => exact ⟨0, by omega, rfl, rfl, rfl⟩
  case round =>
    obtain ⟨j, hj, rfl, rfl, hw⟩ := hrel
    subst hw
    by_cases hlt : j < 2
    · have key : ∃ xo xn xc, wr.cell? ⟨sb, j, none⟩ = some (.slice xo xn xc) ∧ sumUpN m r (j + 1) = sumUpN m r j + xn ∧ xn ≤ m + r := by
        match j, hlt with
        | 0, _ => exact ⟨po, m, d, S0.out, by simp [sumUpN], by omega⟩
        | 1, _ => exact ⟨qo, r, d', S1.out, by simp [sumUpN], by omega⟩
      obtain ⟨xo, xn, xc, f0, hs, hx⟩ := key
      have HS : Hid (sumUpN m r (j + 1) = sumUpN m r j + xn) := hs
      have hle := sumUpN_le m r j
      have hd : decide ((j : Int) < 2) = true := by simp; omega
      clear hs
      obtain ⟨sj, hsj⟩ : ∃ sj, sj = sumUpN m r j := ⟨_, rfl⟩
      rw [← hsj] at HS hle ⊢
      clear hsj
      go_wp2
      go_roundw
      case rel => exact ⟨j + 1, by omega, by go_num, by rw [HS.out]; go_num, trivial⟩
      case measure => simp [intOf]; omega
    · obtain rfl : j = 2 := by omega
      obtain ⟨wq, hwq⟩ : ∃ wq, wq = wr := ⟨wr, rfl⟩
      subst hwq
      obtain ⟨N, hN⟩ : ∃ N, N = sumUpN m r 2 := ⟨_, rfl⟩
      rw [← hN]
      have hNe : N = m + r := by rw [hN]; rfl
      have HN : Hid (N = m + r) := hNe
      have hNb : N ≤ 8796093022208 := by omega
      have hrest : ∀ (v : Value) (w2 : World), CatStN wq w2 v [] N → True := fun _ _ _ => trivial
      clear hN hNe hlt hj hrest
      have HG : Hid (Calls Tryz.prog 61 #[.slice none 0 0, .int .i64 N] wq fun e w' => ∃ v, e = .returned v ∧ CatStN wq w' v [] N) := by
        by_cases h0 : N = 0
        · subst h0
          refine (growN_zero wq).mono ?_
          rintro e w' ⟨rfl, rfl⟩
          exact ⟨_, rfl, Below.refl _ _, .inl ⟨rfl, rfl⟩⟩
        · refine (growN_some N wq (by omega) (by rw [HN.out]; exact HB.out)).mono ?_
          rintro e w' ⟨G, rfl, hG, hown, hbel⟩
          exact ⟨_, rfl, hbel, .inr ⟨_, G, rfl, hG, Nat.le_refl _, hown⟩⟩
      go_wp2_with fail
      refine HG.out.mono ?_
      rintro e w2 ⟨v2, rfl, hst⟩
      have HST : Hid (CatStN wq w2 v2 [] N) := hst
      clear hst HG
      go_wp2
      go_loopw [6, 27] (fun v i wx => ∃ j : Nat, j ≤ 2 ∧ i = .int .i64 j ∧ Hid (CatStN wq wx v (catUpN ps qs j) N)) (fun _ i _ => 2 - (intOf i).toNat)
      case atStart => exact ⟨0, by omega, rfl, HST⟩
      case round =>
        clear HST
        obtain ⟨j, hj, rfl, HST⟩ := hrel
        have hbx := HST.out.1
        by_cases hlt : j < 2
        · have key : ∃ xo xn xc xb xoff, ∃ xl : List PV, wq.cell? ⟨sb, j, none⟩ = some (.slice xo xn xc) ∧ xn = xl.length ∧ PRow wq xo xb xoff xl ∧ catUpN ps qs (j + 1) = catUpN ps qs j ++ xl ∧ (catUpN ps qs j).length + xn ≤ N := by
            have h1 := HM.out
            have h2 := HR.out
            have h3 := HN.out
            match j, hlt with
            | 0, _ => exact ⟨po, m, d, b, off, ps, S0.out, h1, hp, by simp [catUpN], by simp [catUpN]; omega⟩
            | 1, _ => exact ⟨qo, r, d', b', off', qs, S1.out, h2, hq, by simp [catUpN], by simp [catUpN]; omega⟩
          obtain ⟨xo, xn, xc, xb, xoff, xl, f, hxn, hpx, hcu, hfit⟩ := key
          have f0 := (hbx.cell (p := ⟨sb, j, none⟩) ls).trans f
          have HXN : Hid (xn = xl.length) := hxn
          have HPX : Hid (PRow wq xo xb xoff xl) := hpx
          have HON : Hid (∀ u ∈ polC xl, u.oneCell' = true) := prow_one hpx
          have HCU : Hid (catUpN ps qs (j + 1) = catUpN ps qs j ++ xl) := hcu
          obtain ⟨l, hl⟩ : ∃ l, l = catUpN ps qs j := ⟨_, rfl⟩
          rw [← hl] at HST HCU hfit
          have HFT : Hid (l.length + xn ≤ N) := hfit
          have hd : decide ((j : Int) < 2) = true := by simp; omega
          have lsx : sb < wr.heap.size := Nat.lt_of_lt_of_le ls hbx.size
          have HBX : Hid (Below wq.heap.size wq wr) := hbx
          clear hxn hpx hcu hl f hfit hbx
          by_cases hx0 : xn = 0
          · have hxl : xl = [] := List.length_eq_zero_iff.1 (by rw [← HXN.out]; exact hx0)
            have HC2 : Hid (catUpN ps qs (j + 1) = l) := by show _ = _; rw [HCU.out, hxl]; simp
            subst hx0
            clear hxl
            have hform : ∃ base q G, u6 = .slice base q G ∧ q ≤ G := by
              rcases HST.out.2 with ⟨_, h⟩ | ⟨g, G, h, hG, _, _⟩
              · exact ⟨none, 0, 0, h, Nat.le_refl _⟩
              · exact ⟨_, _, G, h, by have := HFT.out; omega⟩
            obtain ⟨base, q, G, hu, hqG⟩ := hform
            subst hu
            have HAN : Hid (∀ ty wx, (Builtin.append_ #[34, 34] ty #[.slice base q G, .slice xo 0 xc]).run Tryz.prog wx = .ok (.slice base q G) wx) := fun ty wx => appendN_none base xo q G xc ty wx hqG
            clear hqG
            go_wp2_with (at_builtin; refine Lib.wpList_append_run _ rfl _ _ _ _ rfl _ _ rfl rfl _ _ (HAN.out _ _) ?_)
            go_roundw
            case rel => exact ⟨j + 1, by omega, by go_num, by rw [HC2.out]; exact HST⟩
            case measure => simp [intOf]; omega
          · have hxo := HPX.out.adr (by have := HXN.out; omega)
            subst hxo
            have hform : ∃ g G, u6 = .slice (some ⟨g, 0, none⟩) l.length G ∧ N ≤ G ∧ wq.heap.size ≤ g ∧ Hid (wr.ownsRow wq.heap.size 63 2 (.slice (some ⟨g, 0, none⟩) l.length G) l.length (polC l)) := by
              rcases HST.out.2 with ⟨h, _⟩ | ⟨g, G, h, hG, hg, ho⟩
              · have := HFT.out; omega
              · exact ⟨g, G, h, hG, hg, by rw [h] at ho; exact ho⟩
            obtain ⟨g, G, hu, hNG, hgq, HO⟩ := hform
            subst hu
            have HC1 : Hid (∀ j u, (polC xl)[j]? = some u → wr.cell? ((⟨xb, xoff, none⟩ : Addr).add j) = some u) := prow_cells_off (HPX.out.later HBX.out)
            have HRM : Hid (l.length + xn ≤ G) := by have := HFT.out; show _ ≤ _; omega
            go_wp2_with (at_builtin; refine wpList_append_own_spare _ rfl _ _ 34 rfl wq.heap.size 63 i0 2 Tryz.underlying34 hi hz1 g l.length G _ rfl HO.out ⟨xb, xoff, none⟩ xn xc (polC xl) rfl ?c0 HC1.out HON.out HRM.out ?_)
            case c0 => rw [polC_len, HXN.out]
            · intro w3 hown3 hgrow3
              have HN3 : Hid (CatStN wq w3 (.slice (some ⟨g, 0, none⟩) (l.length + xn) G) (l ++ xl) N) := by
                have hl : (l ++ xl).length = l.length + xn := by rw [List.length_append, HXN.out]
                refine ⟨HBX.out.grown hgrow3 HBX.out.size (fun k he => by simp at he; omega), .inr ⟨g, G, by rw [hl], hNG, hgq, ?_⟩⟩
                rw [hl]
                simpa [polC] using hown3
              clear hown3 hgrow3
              go_wp2
              go_roundw
              case rel => exact ⟨j + 1, by omega, by go_num, by rw [HCU.out]; exact HN3⟩
              case measure => simp [intOf]; omega
        · obtain rfl : j = 2 := by omega
          have HF : Hid (wr.ownsRow wq.heap.size 63 2 u6 (ps ++ qs).length (polC (ps ++ qs))) := by
            rcases HST.out.2 with ⟨h, hv⟩ | ⟨g, G, h, _, _, ho⟩
            · have e : ps ++ qs = [] := by
                apply List.length_eq_zero_iff.1
                have h1 := HM.out
                have h2 := HR.out
                have h3 := HN.out
                rw [List.length_append]; omega
              rw [hv, e]
              exact World.ownsRow_nil _ _ _ _
            · exact ho
          go_wp2
          go_ret
          exact ⟨_, rfl, HF.out, HST.out.1⟩
end Go.Proofs.YtpbknhhjfhpkmaaGreatDoor
