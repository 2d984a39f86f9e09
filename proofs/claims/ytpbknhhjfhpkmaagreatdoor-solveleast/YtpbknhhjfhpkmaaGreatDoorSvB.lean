/- Contract of solve.Broken. -/
import Derived.Test.YtpbknhhjfhpkmaaGreatDoorGaSolT
namespace Go.Proofs.YtpbknhhjfhpkmaaGreatDoor
open Go.RowKit

def setsC (L : List (Nat → Nat)) : List Value := L.flatMap fun s => (setA s).toList
theorem setsC_snoc (L : List (Nat → Nat)) (s : Nat → Nat) : setsC L ++ (setA s).toList = setsC (L ++ [s]) := by simp [setsC]
theorem setsC_at : ∀ (L : List (Nat → Nat)) (k : Nat) (hk : k < L.length) (i : Nat), i < 6 → (setsC L)[k * 6 + i]? = some (.int .u64 (L[k] i))
  | s :: r, 0, _, i, hi => by
    show ((setA s).toList ++ setsC r)[0 * 6 + i]? = _
    rw [Nat.zero_mul, Nat.zero_add, List.getElem?_append_left hi, Array.getElem?_toList]
    exact setA_at s hi
  | s :: r, k + 1, hk, i, hi => by
    show ((setA s).toList ++ setsC r)[(k + 1) * 6 + i]? = _
    rw [List.getElem?_append_right (by show 6 ≤ _; omega)]
    have e : (k + 1) * 6 + i - (setA s).toList.length = k * 6 + i := by show _ - 6 = _; omega
    rw [e]
    exact setsC_at r k (by simpa using hk) i hi
/- What the first loop holds: the sets, behind a box. -/
structure StSt2 (w2 wr : World) (v : Value) (L : List (Nat → Nat)) : Prop where
  bel : Below w2.heap.size w2 wr
  box : wr.heap[w2.heap.size]? = some (.cells #[v] 48 (0, 0))
  own : wr.ownsRow (w2.heap.size + 1) 54 6 v L.length (setsC L)
theorem StSt2.later {w2 wr w' : World} {v : Value} {L : List (Nat → Nat)} (h : StSt2 w2 wr v L) (hb : Below wr.heap.size wr w') : StSt2 w2 w' v L := ⟨h.bel.trans (hb.mono h.bel.size), (hb.block _ (lt_of_block h.box)).trans h.box, own_below h.own hb⟩
theorem StSt2.grow {w2 wa w3 : World} {v : Value} {L : List (Nat → Nat)} (h : StSt2 w2 wa v L) (hgr : wa.grownBy w3 v.ownBlock) : Below w2.heap.size w2 w3 ∧ w3.heap[w2.heap.size]? = some (.cells #[v] 48 (0, 0)) := by
  have hne : ∀ k, v.ownBlock = some k → w2.heap.size + 1 ≤ k := fun k e => (h.own.lt _ e).1
  exact ⟨h.bel.grown hgr h.bel.size (fun k e => by have := hne k e; omega), (hgr.block _ (lt_of_block h.box) (fun e => by have := hne _ e.symm; omega)).trans h.box⟩
theorem StSt2.fin {w2 wr : World} {v : Value} {L : List (Nat → Nat)} (h : StSt2 w2 wr v L) : ∃ so sb sc, v = .slice so L.length sc ∧ SetsAt wr so sb 0 L.length (fun k => L.getD k (fun _ => 0)) := by
  rcases h.own.2 with ⟨hv, h0⟩ | ⟨g, cap, cur, hv, hg, hh, hc1, hc2, hsz, htk⟩
  · exact ⟨none, 0, 0, by rw [h0]; exact hv, ⟨fun hp => by omega, fun k hk => by omega, fun hp => by omega⟩⟩
  · refine ⟨some ⟨g, 0, none⟩, g, cap, hv, ⟨fun _ => rfl, fun k hk i hi => ?_, fun _ => lt_of_block hh⟩⟩
    rw [Nat.zero_add, cell_blk hh, ← Array.getElem?_toList]
    have e : (cur.toList.take (L.length * 6))[k * 6 + i]? = (setsC L)[k * 6 + i]? := by rw [htk]
    rw [List.getElem?_take, if_pos (by omega), setsC_at L k hk i hi] at e
    rw [e]
    simp [List.getD, hk]
theorem StSt2.put {w2 w6 : World} {v v2 : Value} {L2 : List (Nat → Nat)} (hbel : Below w2.heap.size w2 w6) (hbox : w6.heap[w2.heap.size]? = some (.cells #[v] 48 (0, 0))) (hown : w6.ownsRow (w2.heap.size + 1) 54 6 v2 L2.length (setsC L2)) : StSt2 w2 (w6.setCell ⟨w2.heap.size, 0, none⟩ v2) v2 L2 := by
  refine ⟨hbel.setCell (p := ⟨w2.heap.size, 0, none⟩) (Nat.le_refl _) _, heap_setCell_same _ _ _ _ _ _ hbox, hown.kept (grownBy_setCell' w6 _ _) (.inr fun e => ?_)⟩
  have := (hown.lt _ e).1
  omega
/- What is wrong first with some labels. -/
def hvE (ls : List ByteArray) (ps : List (ByteArray × ByteArray)) : List (List Pol) → Int
  | [] => 0
  | y :: r => if checkL ls ps y = 0 then hvE ls ps r else checkL ls ps y
theorem hvE_hit {ls : List ByteArray} {ps : List (ByteArray × ByteArray)} : ∀ {hv : List (List Pol)} {k : Nat} (hk : k < hv.length), (∀ y ∈ hv.take k, checkL ls ps y = 0) → checkL ls ps hv[k] ≠ 0 → hvE ls ps hv = checkL ls ps hv[k]
  | y :: r, 0, _, _, h => by
    have h' : checkL ls ps y ≠ 0 := h
    rw [hvE, if_neg h']; rfl
  | y :: r, k + 1, hk, h1, h2 => by
    rw [hvE, if_pos (h1 y (by simp))]
    exact hvE_hit (hv := r) (k := k) (by simpa using hk) (fun z hz => h1 z (by simp [hz])) h2
theorem hvE_zero {ls : List ByteArray} {ps : List (ByteArray × ByteArray)} : ∀ {hv : List (List Pol)}, hvE ls ps hv = 0 ↔ ∀ y ∈ hv, checkL ls ps y = 0
  | [] => by simp [hvE]
  | y :: r => by
    rw [hvE]
    split
    · rename_i h
      rw [hvE_zero]
      simp [h]
    · rename_i h
      simp [h]
def brkE (ls : List ByteArray) (ps : List (ByteArray × ByteArray)) (hv : List (List Pol)) (l : List RBd) : Int := if chkB ls ps (hv.length : Int) l = 0 then hvE ls ps hv else chkB ls ps (hv.length : Int) l
/- Which bounds are not held. -/
structure BrkOK (ps : List (ByteArray × ByteArray)) (hv : List (List Pol)) (l : List RBd) (xs : List Int) : Prop where
  ex : ∃ bk : Nat → Bool, (∀ k (h : k < l.length), bk k = true ↔ ¬ Sol.holds ps (toB l[k]) (Sol.hs hv)) ∧ xs = ((List.range l.length).filter bk).map Int.ofNat
theorem Tryz.infoSetsD : (Tryz.prog.info? 54).map (fun i => (i.zero, i.size, i.bytes)) = some (some (.agg #[.int .u64 0, .int .u64 0, .int .u64 0, .int .u64 0, .int .u64 0, .int .u64 0]), 6, 48) := by kernel_rfl

theorem ints_own {w : World} {B : Nat} {v : Value} {xs : List Int} (h : w.ownsRow B 3 1 v xs.length (xs.map (Value.int .i64))) : ∃ xo xb xc, v = .slice xo xs.length xc ∧ Ints w xo xb 0 xs := by
  rcases h.2 with ⟨hv, h0⟩ | ⟨g, cap, cur, hv, hg, hh, hc1, hc2, hsz, htk⟩
  · exact ⟨none, 0, 0, by rw [h0]; exact hv, ⟨fun hp => by omega, fun k hk => by omega, fun hp => by omega⟩⟩
  · refine ⟨some ⟨g, 0, none⟩, g, cap, hv, ⟨fun _ => rfl, fun k hk => ?_, fun _ => lt_of_block hh⟩⟩
    rw [Nat.zero_add, cell_blk hh, ← Array.getElem?_toList]
    have e : (cur.toList.take (xs.length * 1))[k]? = (xs.map (Value.int .i64))[k]? := by rw [htk]
    rw [List.getElem?_take, if_pos (by omega)] at e
    rw [e]
    simp [hk]

set_option maxRecDepth 100000 in
set_option maxHeartbeats 8000000 in
theorem brokenL (ao po lo ho : Option Addr) (b off b' off' n m c d lb loff ln lc hb hoff hc : Nat) (ls : List ByteArray) (ps : List (ByteArray × ByteArray)) (hv : List (List Pol)) (l : List RBd) (w : World) (hch : Chiefs w ao po b off b' off' n m c ls ps) (hl : Bds w lo lb loff l) (hn : ln = l.length) (hm : ln ≤ maxLen) (hhv : LbsAt w ho hb hoff hv) (hhm : hv.length ≤ maxLen) (hT : TzTab w) :
    Calls Tryz.prog 15 #[.slice ao n c, .slice po m d, .slice ho hv.length hc, .slice lo ln lc] w fun e w' => Below w.heap.size w w' ∧
      ((brkE ls ps hv l ≠ 0 ∧ e = .returned (.tuple #[.slice none 0 0, .int .i64 (brkE ls ps hv l)])) ∨ (brkE ls ps hv l = 0 ∧ ∃ (xo : Option Addr) (xb xc : Nat) (xs : List Int), e = .returned (.tuple #[.slice xo xs.length xc, .int .i64 0]) ∧ xs.length ≤ 1000 ∧ Ints w' xo xb 0 xs ∧ BrkOK ps hv l xs)) := by
  have hck := checkBC ao po lo b off b' off' n m c d lb loff ln lc (hv.length : Int) ls ps l w hch hl hn hm
  obtain ⟨nh, hnh⟩ : ∃ nh, nh = hv.length := ⟨_, rfl⟩
  have HBE : Hid (brkE ls ps hv l = if chkB ls ps (nh : Int) l = 0 then hvE ls ps hv else chkB ls ps (nh : Int) l) := by rw [hnh]; rfl
  rw [← hnh] at hck hhm ⊢
  have HNH : Hid (nh = hv.length) := hnh
  have HC : Hid (Chiefs w ao po b off b' off' n m c ls ps) := hch
  have HL : Hid (Bds w lo lb loff l) := hl
  have HLN : Hid (ln = l.length) := hn
  have HV : Hid (LbsAt w ho hb hoff hv) := hhv
  have HT : Hid (TzTab w) := hT
  clear hch hl hn hT hhv hnh
  by_cases h0 : chkB ls ps (nh : Int) l = 0
  · rw [h0] at hck
    obtain ⟨hF, hN2, hl400, hgood⟩ : checkF ls ps = 0 ∧ nh ≤ 400 ∧ l.length ≤ 400 ∧ ∀ x ∈ l, oneE ls ps (nh : Int) x = 0 := by
      unfold chkB at h0
      split at h0
      · rename_i hF
        split at h0
        · cases h0
        · rename_i hr
          refine ⟨hF, by omega, by omega, bdsE_zero h0⟩
      · rename_i hF
        exact absurd h0 hF
    have HB0 : Hid (brkE ls ps hv l = hvE ls ps hv) := by show _ = _; rw [HBE.out, if_pos h0]
    have HF : Hid (checkF ls ps = 0) := hF
    have HG : Hid (∀ x ∈ l, GoodB ls nh x) := fun x hx => good_of (hgood x hx)
    have hl4 : ln ≤ 400 := by have := HLN.out; omega
    obtain ⟨i0, hi, hz0, hz1, hz2⟩ := info_parts Tryz.infoSetsD
    obtain ⟨j0, hj, hy0, hy1, hy2⟩ := info_parts Tryz.infoIntD
    have hmx : Tryz.prog.follows .mixedOrders = true := by kernel_rfl
    have hmf : ∀ (fn : Fn) (first cap : Array Value) (w : World), (Instr.makeFunc fn first cap).run Tryz.prog w = .ok (.func fn first cap) w := fun _ _ _ _ => rfl
    have eg1 : ∀ args w, (callFunc 40 args).run Tryz.prog w = .ok (.enter 40 args) w := enters_of Tryz.func40 (by kernel_rfl) rfl
    have h6 : ls.length ≤ 6 := by have := (right_of hF).1; omega
    clear hgood hl400 hF h0 HBE
    go_enter Tryz.func15, Tryz.ntmps15
    go_wp2_with fail
    refine hck.mono ?_
    rintro e w1 ⟨rfl, hb1⟩
    have HB1 : Hid (Below w.heap.size w w1) := hb1
    have hga := gatherC ao po b off b' off' n m c d ls ps w1 (HC.out.later hb1) HF.out
    clear hb1 hck
    go_wp2_with fail
    refine hga.mono ?_
    rintro e w2 ⟨rfl, hcrt, hb2⟩
    have HB2 : Hid (Below w.heap.size w w2) := HB1.out.trans (hb2.mono HB1.out.size)
    have HCR : Hid (CrtAt w2 w1.heap.size ao n c (actG ls ps)) := hcrt
    obtain ⟨q, hq⟩ : ∃ q, q = w1.heap.size := ⟨_, rfl⟩
    rw [← hq] at HCR ⊢
    clear hb2 hga hcrt hq
    have HS0 : Hid (StSt2 w2 (w2.alloc (.cells #[.slice none 0 0] 48)) (.slice none 0 0) []) := ⟨(Below.refl _ _).alloc (Nat.le_refl _) _, heap_at_alloc _ _ _ rfl, World.ownsRow_nil _ _ _ _⟩
    go_wp2
    go_loopw [34] (fun i wr => ∃ k : Nat, k ≤ nh ∧ i = .int .i64 k ∧ Hid (∃ v, StSt2 w2 wr v ((hv.take k).map (setF ls)) ∧ ∀ y ∈ hv.take k, checkL ls ps y = 0)) (fun i _ => nh - (intOf i).toNat)
    case atStart => exact ⟨0, Nat.zero_le _, rfl, _, HS0.out, fun y hy => by simp at hy⟩
    case round =>
      clear HS0
      obtain ⟨k, hk, rfl, HP⟩ := hrel
      obtain ⟨v, hst, hpre⟩ := HP.out
      have HST : Hid (StSt2 w2 wr v ((hv.take k).map (setF ls))) := hst
      have HPRE : Hid (∀ y ∈ hv.take k, checkL ls ps y = 0) := hpre
      clear HP hst hpre
      have HBR : Hid (Below w.heap.size w wr) := HB2.out.trans (HST.out.bel.mono HB2.out.size)
      by_cases hlt : k < nh
      · have hkv : k < hv.length := by have := HNH.out; omega
        have hho := HV.out.adr (by omega)
        obtain ⟨yv, cy, yo, yb, yoff, yn, yc, e1, hlab⟩ := (HV.out.later HBR.out).at' k hkv
        subst e1
        have hck2 := checkLab ao po yo b off b' off' n m c d yb yoff yn yc ls ps hv[k] wr (HC.out.later HBR.out) hlab
        have HLB : Hid (LabAt wr yo yb yoff yn yc hv[k]) := hlab
        have lhb := World.block_lt_of_cell? _ _ cy
        subst hho
        by_cases hz : checkL ls ps hv[k] = 0
        · rw [hz] at hck2
          obtain ⟨hcL1, hcL2, hcL3, hcL4⟩ := checkL_ok hz
          have HZ : Hid (checkL ls ps hv[k] = 0 ∧ Lab.OfL ls hv[k]) := ⟨hz, hcL3⟩
          clear hz hcL1 hcL2 hcL3 hcL4 hlab
          go_wp2_with fail
          refine hck2.mono ?_
          rintro e w3 ⟨rfl, hb3⟩
          have HS3 : Hid (StSt2 w2 w3 v ((hv.take k).map (setF ls))) := HST.out.later hb3
          have HB3 : Hid (Below w2.heap.size w2 w3) := HS3.out.bel
          have HL3 : Hid (LabAt w3 yo yb yoff yn yc hv[k]) := HLB.out.later hb3
          have HLL : Hid (((hv.take k).map (setF ls)).length = k) := by show _ = _; rw [List.length_map, List.length_take]; omega
          have hkk := HLL.out
          obtain ⟨ov, ocap, hov⟩ := slice_of HS3.out.own
          rw [hkk] at hov
          subst hov
          have cb : w3.cell? ⟨w2.heap.size, 0, none⟩ = some (.slice ov k ocap) := cell_blk HS3.out.box
          have HSET : Hid (∀ W : World, Below w3.heap.size w3 W → Calls Tryz.prog 39 #[.pointer (some ⟨q, 0, none⟩), .slice yo yn yc] W fun e w' => e = .returned (.agg (setA (setF ls hv[k]))) ∧ Below W.heap.size W w') := fun W hb => by
            have h1 : Below w2.heap.size w2 W := HB3.out.trans (hb.mono HB3.out.size)
            have h2 : Below w.heap.size w W := HB2.out.trans (h1.mono HB2.out.size)
            exact setCt q ao yo b off n c yb yoff yn yc (actG ls ps) ls hv[k] W (HCR.out.later h1) HC.out.ln (by have := HC.out.ln; omega) (HC.out.strs.later h2) (HL3.out.later hb) HZ.out.2
          obtain ⟨T, hTT⟩ : ∃ T, T = setF ls hv[k] := ⟨_, rfl⟩
          rw [← hTT] at HSET
          have HTK : Hid ((hv.take (k + 1)).map (setF ls) = (hv.take k).map (setF ls) ++ [T]) := by show _ = _; rw [List.take_succ_eq_append_getElem hkv, List.map_append, hTT]; rfl
          have HPN : Hid (∀ y ∈ hv.take (k + 1), checkL ls ps y = 0) := fun y hy => by
            rw [List.take_succ_eq_append_getElem hkv] at hy
            rcases List.mem_append.1 hy with hy | hy
            · exact HPRE.out y hy
            · rw [List.mem_singleton.1 hy]; exact HZ.out.1
          obtain ⟨LL, hLLd⟩ : ∃ LL, LL = (hv.take k).map (setF ls) := ⟨_, rfl⟩
          rw [← hLLd] at HS3 HTK HLL hkk
          clear hb3 hck2 hTT HST HLB HL3 cy hLLd HBR
          have HAT : Hid (setA T = #[.int .u64 (T 0), .int .u64 (T 1), .int .u64 (T 2), .int .u64 (T 3), .int .u64 (T 4), .int .u64 (T 5)]) := rfl
          go_wp2
          refine wp_region_held_drew (S := fun _ => True) hmx trivial ?_
          intro hHeld
          refine wpAnyH_take (i := 1) (v := .pointer (some ⟨q, 0, none⟩)) rfl (by kernel_rfl) (by kernel_rfl) (by kernel_rfl) (fun _ _ _ h => h) (Or.inl ⟨by rfl, fun W' hSw => by dsimp only at hSw; go_simp⟩) hHeld ?_
          simp only [Act.put]
          refine wpAnyH_take (i := 2) (v := .slice yo yn yc) rfl (by kernel_rfl) (by kernel_rfl) (by kernel_rfl) (fun _ _ _ h => h) (Or.inl ⟨by rfl, fun W' hSw => by dsimp only at hSw; go_simp⟩) hHeld ?_
          simp only [Act.put]
          refine wpAnyH_ready (rs := [0, 3]) (by kernel_rfl) (by simp) ?_
          refine AllReadyH.cons rfl (fun K hK => ?_) (AllReadyH.cons rfl (fun K hK => ?_) AllReadyH.nil)
          · go_simp
            refine hK.out _ _ trivial ?_
            clear hK K hHeld
            intro hHeld
            refine wpAnyH_ready (rs := [3]) (by kernel_rfl) (by simp) ?_
            refine AllReadyH.cons rfl (fun K hK => ?_) AllReadyH.nil
            go_simp
            refine (HSET.out w3.drew ⟨rfl, rfl, rfl, Nat.le_refl _, fun _ _ => rfl⟩).mono ?_
            rintro e w4 ⟨rfl, hb4⟩
            have HB34 : Hid (Below w3.heap.size w3 w4) := ⟨hb4.os, hb4.tape, hb4.output, hb4.size, hb4.block⟩
            have HS4 : Hid (StSt2 w2 w4 (.slice ov k ocap) LL) := HS3.out.later HB34.out
            have cb4 := cell_below HB34.out cb
            clear hb4
            rw [HAT.out]
            refine hK.out _ _ trivial ?_
            clear hK K hHeld
            intro hHeld
            refine wpAnyH_ready (rs := [4]) (by kernel_rfl) (by simp) ?_
            refine AllReadyH.cons rfl (fun K hK => ?_) AllReadyH.nil
            go_simp
            obtain ⟨w5, hw5⟩ : ∃ w5, w5 = w4.alloc (.cells #[.int .u64 (T 0), .int .u64 (T 1), .int .u64 (T 2), .int .u64 (T 3), .int .u64 (T 4), .int .u64 (T 5)] 54) := ⟨_, rfl⟩
            rw [← hw5]
            have H45 : Hid (Below w4.heap.size w4 w5) := by show Below _ _ _; rw [hw5]; exact (Below.refl _ _).alloc (Nat.le_refl _) _
            have HNEW : Hid (∀ j u, (setA T).toList[j]? = some u → w5.cell? ((⟨w4.heap.size, 0, none⟩ : Addr).add j) = some u) := by
              have hb : w5.heap[w4.heap.size]? = some (.cells (setA T) 54 (0, 0)) := by rw [hw5]; exact heap_at_alloc _ _ _ rfl
              exact World.news_of_block hb
            have HS5 : Hid (StSt2 w2 w5 (.slice ov k ocap) LL) := HS4.out.later H45.out
            have cb5 := cell_below H45.out cb4
            clear hw5
            refine hK.out _ _ trivial ?_
            clear hK K hHeld
            intro hHeld
            refine wpAnyH_ready (rs := [5]) (by kernel_rfl) (by simp) ?_
            refine AllReadyH.cons rfl (fun K hK => ?_) AllReadyH.nil
            refine step_append_lies w5 rfl (.tmp 45) (.tmp 49) 48 rfl (w2.heap.size + 1) 54 i0 (.agg #[.int .u64 0, .int .u64 0, .int .u64 0, .int .u64 0, .int .u64 0, .int .u64 0]) 6 48 Tryz.underlying48 hi hz0 hz1 hz2 rfl (by decide) (.slice ov k ocap) k (setsC LL) rfl (by have := HS5.out.own; rw [HLL.out] at this; exact this) ⟨w4.heap.size, 0, none⟩ 1 1 (setA T).toList rfl rfl HNEW.out ?h1 (by omega) ?h63 ?hby ?hbase w5.heap.size rfl ?_
            case h1 => intro u hu; exact (Array.all_eq_true_iff_forall_mem.1 (setA_one T)) u (by simpa using hu)
            case h63 => unfold maxLen; omega
            case hby => omega
            case hbase => exact lt_of_block HS5.out.box
            rintro g6 cap6 w6 hown6 hgr6 hloc6 hlt6
            obtain ⟨hbel6, hbox6⟩ := HS5.out.grow hgr6
            have HN7 : Hid (StSt2 w2 (w6.setCell ⟨w2.heap.size, 0, none⟩ (.slice (some ⟨g6, 0, none⟩) (k + 1) cap6)) (.slice (some ⟨g6, 0, none⟩) (k + 1) cap6) (LL ++ [T])) := StSt2.put hbel6 hbox6 (by rw [← setsC_snoc, List.length_append, HLL.out]; exact hown6)
            have cb6 : w6.cell? ⟨w2.heap.size, 0, none⟩ = some (.slice ov k ocap) := cell_blk hbox6
            have cz6 : w6.frozen? ⟨w2.heap.size, 0, none⟩ = false := by simp [World.frozen?, hbox6]
            clear hown6 hgr6 hloc6 hbel6 hbox6
            refine hK.out _ _ trivial ?_
            clear hK K hHeld
            intro hHeld
            simp only [Act.put]
            refine wpAnyH_ready (rs := [6]) (by kernel_rfl) (by simp) ?_
            refine AllReadyH.cons rfl (fun K hK => ?_) AllReadyH.nil
            go_simp
            refine hK.out _ _ trivial ?_
            clear hK K hHeld
            intro hHeld
            refine wpAnyH_done (by kernel_rfl) ?_ _
            go_wp2_with fail
            go_roundw
            case rel => exact ⟨k + 1, by omega, by go_num, _, by rw [HTK.out]; exact HN7.out, HPN.out⟩
            case measure => simp [intOf]; omega
          · go_simp
            refine (HSET.out w3.drew ⟨rfl, rfl, rfl, Nat.le_refl _, fun _ _ => rfl⟩).mono ?_
            rintro e w4 ⟨rfl, hb4⟩
            have HB34 : Hid (Below w3.heap.size w3 w4) := ⟨hb4.os, hb4.tape, hb4.output, hb4.size, hb4.block⟩
            have HS4 : Hid (StSt2 w2 w4 (.slice ov k ocap) LL) := HS3.out.later HB34.out
            have cb4 := cell_below HB34.out cb
            clear hb4
            rw [HAT.out]
            refine hK.out _ _ trivial ?_
            clear hK K hHeld
            intro hHeld
            refine wpAnyH_ready (rs := [0, 4]) (by kernel_rfl) (by simp) ?_
            refine AllReadyH.cons rfl (fun K hK => ?_) (AllReadyH.cons rfl (fun K hK => ?_) AllReadyH.nil)
            · go_simp
              refine hK.out _ _ trivial ?_
              clear hK K hHeld
              intro hHeld
              refine wpAnyH_ready (rs := [4]) (by kernel_rfl) (by simp) ?_
              refine AllReadyH.cons rfl (fun K hK => ?_) AllReadyH.nil
              go_simp
              obtain ⟨w5, hw5⟩ : ∃ w5, w5 = w4.alloc (.cells #[.int .u64 (T 0), .int .u64 (T 1), .int .u64 (T 2), .int .u64 (T 3), .int .u64 (T 4), .int .u64 (T 5)] 54) := ⟨_, rfl⟩
              rw [← hw5]
              have H45 : Hid (Below w4.heap.size w4 w5) := by show Below _ _ _; rw [hw5]; exact (Below.refl _ _).alloc (Nat.le_refl _) _
              have HNEW : Hid (∀ j u, (setA T).toList[j]? = some u → w5.cell? ((⟨w4.heap.size, 0, none⟩ : Addr).add j) = some u) := by
                have hb : w5.heap[w4.heap.size]? = some (.cells (setA T) 54 (0, 0)) := by rw [hw5]; exact heap_at_alloc _ _ _ rfl
                exact World.news_of_block hb
              have HS5 : Hid (StSt2 w2 w5 (.slice ov k ocap) LL) := HS4.out.later H45.out
              have cb5 := cell_below H45.out cb4
              clear hw5
              refine hK.out _ _ trivial ?_
              clear hK K hHeld
              intro hHeld
              refine wpAnyH_ready (rs := [5]) (by kernel_rfl) (by simp) ?_
              refine AllReadyH.cons rfl (fun K hK => ?_) AllReadyH.nil
              refine step_append_lies w5 rfl (.tmp 45) (.tmp 49) 48 rfl (w2.heap.size + 1) 54 i0 (.agg #[.int .u64 0, .int .u64 0, .int .u64 0, .int .u64 0, .int .u64 0, .int .u64 0]) 6 48 Tryz.underlying48 hi hz0 hz1 hz2 rfl (by decide) (.slice ov k ocap) k (setsC LL) rfl (by have := HS5.out.own; rw [HLL.out] at this; exact this) ⟨w4.heap.size, 0, none⟩ 1 1 (setA T).toList rfl rfl HNEW.out ?h1 (by omega) ?h63 ?hby ?hbase w5.heap.size rfl ?_
              case h1 => intro u hu; exact (Array.all_eq_true_iff_forall_mem.1 (setA_one T)) u (by simpa using hu)
              case h63 => unfold maxLen; omega
              case hby => omega
              case hbase => exact lt_of_block HS5.out.box
              rintro g6 cap6 w6 hown6 hgr6 hloc6 hlt6
              obtain ⟨hbel6, hbox6⟩ := HS5.out.grow hgr6
              have HN7 : Hid (StSt2 w2 (w6.setCell ⟨w2.heap.size, 0, none⟩ (.slice (some ⟨g6, 0, none⟩) (k + 1) cap6)) (.slice (some ⟨g6, 0, none⟩) (k + 1) cap6) (LL ++ [T])) := StSt2.put hbel6 hbox6 (by rw [← setsC_snoc, List.length_append, HLL.out]; exact hown6)
              have cb6 : w6.cell? ⟨w2.heap.size, 0, none⟩ = some (.slice ov k ocap) := cell_blk hbox6
              have cz6 : w6.frozen? ⟨w2.heap.size, 0, none⟩ = false := by simp [World.frozen?, hbox6]
              clear hown6 hgr6 hloc6 hbel6 hbox6
              refine hK.out _ _ trivial ?_
              clear hK K hHeld
              intro hHeld
              simp only [Act.put]
              refine wpAnyH_ready (rs := [6]) (by kernel_rfl) (by simp) ?_
              refine AllReadyH.cons rfl (fun K hK => ?_) AllReadyH.nil
              go_simp
              refine hK.out _ _ trivial ?_
              clear hK K hHeld
              intro hHeld
              refine wpAnyH_done (by kernel_rfl) ?_ _
              go_wp2_with fail
              go_roundw
              case rel => exact ⟨k + 1, by omega, by go_num, _, by rw [HTK.out]; exact HN7.out, HPN.out⟩
              case measure => simp [intOf]; omega
            · go_simp
              obtain ⟨w5, hw5⟩ : ∃ w5, w5 = w4.alloc (.cells #[.int .u64 (T 0), .int .u64 (T 1), .int .u64 (T 2), .int .u64 (T 3), .int .u64 (T 4), .int .u64 (T 5)] 54) := ⟨_, rfl⟩
              rw [← hw5]
              have H45 : Hid (Below w4.heap.size w4 w5) := by show Below _ _ _; rw [hw5]; exact (Below.refl _ _).alloc (Nat.le_refl _) _
              have HNEW : Hid (∀ j u, (setA T).toList[j]? = some u → w5.cell? ((⟨w4.heap.size, 0, none⟩ : Addr).add j) = some u) := by
                have hb : w5.heap[w4.heap.size]? = some (.cells (setA T) 54 (0, 0)) := by rw [hw5]; exact heap_at_alloc _ _ _ rfl
                exact World.news_of_block hb
              have HS5 : Hid (StSt2 w2 w5 (.slice ov k ocap) LL) := HS4.out.later H45.out
              have cb5 := cell_below H45.out cb4
              clear hw5
              refine hK.out _ _ trivial ?_
              clear hK K hHeld
              intro hHeld
              refine wpAnyH_ready (rs := [0]) (by kernel_rfl) (by simp) ?_
              refine AllReadyH.cons rfl (fun K hK => ?_) AllReadyH.nil
              go_simp
              refine hK.out _ _ trivial ?_
              clear hK K hHeld
              intro hHeld
              refine wpAnyH_ready (rs := [5]) (by kernel_rfl) (by simp) ?_
              refine AllReadyH.cons rfl (fun K hK => ?_) AllReadyH.nil
              refine step_append_lies w5 rfl (.tmp 45) (.tmp 49) 48 rfl (w2.heap.size + 1) 54 i0 (.agg #[.int .u64 0, .int .u64 0, .int .u64 0, .int .u64 0, .int .u64 0, .int .u64 0]) 6 48 Tryz.underlying48 hi hz0 hz1 hz2 rfl (by decide) (.slice ov k ocap) k (setsC LL) rfl (by have := HS5.out.own; rw [HLL.out] at this; exact this) ⟨w4.heap.size, 0, none⟩ 1 1 (setA T).toList rfl rfl HNEW.out ?h1 (by omega) ?h63 ?hby ?hbase w5.heap.size rfl ?_
              case h1 => intro u hu; exact (Array.all_eq_true_iff_forall_mem.1 (setA_one T)) u (by simpa using hu)
              case h63 => unfold maxLen; omega
              case hby => omega
              case hbase => exact lt_of_block HS5.out.box
              rintro g6 cap6 w6 hown6 hgr6 hloc6 hlt6
              obtain ⟨hbel6, hbox6⟩ := HS5.out.grow hgr6
              have HN7 : Hid (StSt2 w2 (w6.setCell ⟨w2.heap.size, 0, none⟩ (.slice (some ⟨g6, 0, none⟩) (k + 1) cap6)) (.slice (some ⟨g6, 0, none⟩) (k + 1) cap6) (LL ++ [T])) := StSt2.put hbel6 hbox6 (by rw [← setsC_snoc, List.length_append, HLL.out]; exact hown6)
              have cb6 : w6.cell? ⟨w2.heap.size, 0, none⟩ = some (.slice ov k ocap) := cell_blk hbox6
              have cz6 : w6.frozen? ⟨w2.heap.size, 0, none⟩ = false := by simp [World.frozen?, hbox6]
              clear hown6 hgr6 hloc6 hbel6 hbox6
              refine hK.out _ _ trivial ?_
              clear hK K hHeld
              intro hHeld
              simp only [Act.put]
              refine wpAnyH_ready (rs := [6]) (by kernel_rfl) (by simp) ?_
              refine AllReadyH.cons rfl (fun K hK => ?_) AllReadyH.nil
              go_simp
              refine hK.out _ _ trivial ?_
              clear hK K hHeld
              intro hHeld
              refine wpAnyH_done (by kernel_rfl) ?_ _
              go_wp2_with fail
              go_roundw
              case rel => exact ⟨k + 1, by omega, by go_num, _, by rw [HTK.out]; exact HN7.out, HPN.out⟩
              case measure => simp [intOf]; omega
        · have HX : Hid (brkE ls ps hv l = checkL ls ps hv[k]) := by show _ = _; rw [HB0.out]; exact hvE_hit hkv HPRE.out hz
          obtain ⟨e0, he0⟩ : ∃ e0, e0 = checkL ls ps hv[k] := ⟨_, rfl⟩
          rw [← he0] at hck2 hz
          have hb3' : (e0 == 0) = false := by simp [hz]
          have hb3'' : (e0 != 0) = true := by simp [hz]
          have HH : Hid (checkL ls ps hv[k] ≠ 0 ∧ e0 = checkL ls ps hv[k]) := ⟨by rw [← he0]; exact hz, he0⟩
          clear hz he0 hlab
          go_wp2_with fail
          refine hck2.mono ?_
          rintro e w3 ⟨rfl, hb3⟩
          have HB3 : Hid (Below w.heap.size w w3) := HBR.out.trans (hb3.mono HBR.out.size)
          clear hb3 hck2
          go_wp2
          go_ret2
          refine ⟨HB3.out, .inl ⟨by rw [HX.out]; exact HH.out.1, ?_⟩⟩
          rw [HX.out, ← HH.out.2]
          rfl
      · have hkn : k = nh := by omega
        subst hkn
        have hall : hv.take k = hv := List.take_of_length_le (by have := HNH.out; omega)
        have HAL : Hid (∀ y ∈ hv, checkL ls ps y = 0) := by have := HPRE.out; rw [hall] at this; exact this
        have HZE : Hid (brkE ls ps hv l = 0) := by show _ = _; rw [HB0.out]; exact hvE_zero.2 HAL.out
        obtain ⟨so, sb, sc, e1, hsets⟩ := (by have := HST.out; rw [hall] at this; exact this : StSt2 w2 wr v (hv.map (setF ls))).fin
        have hbx := HST.out.box
        rw [List.length_map, ← HNH.out] at e1 hsets
        rw [e1] at hbx
        obtain ⟨f, hf⟩ : ∃ f : Nat → Nat → Nat, f = fun k => (hv.map (setF ls)).getD k (fun _ => 0) := ⟨_, rfl⟩
        rw [← hf] at hsets
        have HFO : Hid ((∀ k, SetOK (f k)) ∧ (∀ k, Fit ls.length (f k)) ∧ (∀ k, Sol.go ps (Sol.fs ls f k) (Sol.hs hv k)) ∧ ∀ k, Sol.go ps (Sol.hs hv k) (Sol.fs ls f k)) := by
          have key : ∀ j, SetOK (f j) ∧ Fit ls.length (f j) ∧ Sol.go ps (Sol.fs ls f j) (Sol.hs hv j) ∧ Sol.go ps (Sol.hs hv j) (Sol.fs ls f j) := fun j => by
            by_cases hj : j < hv.length
            · have ej : f j = setF ls hv[j] := by rw [hf]; simp [List.getD, hj]
              have hofj := (checkL_ok (HAL.out _ (List.getElem_mem hj))).2.2.1
              have hs := Sol.set_same ps hofj (setF_is ls hv[j])
              have eh : Sol.hs hv j = fun p => p ∈ hv[j] := by funext p; simp [Sol.hs, List.getD, hj]
              unfold Sol.fs
              rw [ej, eh]
              exact ⟨setF_ok h6 hofj, set_fit (setF_is ls hv[j]) hofj, hs.2, hs.1⟩
            · have ej : f j = fun _ => 0 := by rw [hf]; simp [List.getD, hj]
              have eh : Sol.hs hv j = fun p => p ∈ ([] : List Pol) := by funext p; simp [Sol.hs, List.getD, hj]
              unfold Sol.fs
              rw [ej, eh]
              exact ⟨fun _ => (by show 0 < _; decide), Fit.none _, fun q hq => absurd hq (Sol.labS_none ls q), fun q hq => by cases hq⟩
          exact ⟨fun j => (key j).1, fun j => (key j).2.1, fun j => (key j).2.2.1, fun j => (key j).2.2.2⟩
        have HSE : Hid (SetsAt wr so sb 0 k f) := hsets
        have HBX : Hid (wr.heap[w2.heap.size]? = some (.cells #[.slice so k sc] 48 (0, 0))) := hbx
        have HB2R : Hid (Below w2.heap.size w2 wr) := HST.out.bel
        obtain ⟨wQ, hwQ⟩ : ∃ wQ, wQ = wr := ⟨_, rfl⟩
        have HWQ : Hid (SetsAt wQ so sb 0 k f ∧ wQ.heap[w2.heap.size]? = some (.cells #[.slice so k sc] 48 (0, 0)) ∧ Below w2.heap.size w2 wQ ∧ Below w.heap.size w wQ) := by rw [hwQ]; exact ⟨HSE.out, HBX.out, HB2R.out, HBR.out⟩
        have hwy := waysC q ao lo b off n c lb loff ln lc k ls ps l wr (HCR.out.later HB2R.out) HF.out HC.out.ln (HC.out.strs.later HBR.out) (HL.out.later HBR.out) HLN.out hl4 HG.out
        clear hall e1 hsets hbx hf HST HPRE
        go_wp2_with fail
        refine hwy.mono ?_
        rintro e w3 ⟨wo, wb, wc, vs, rfl, hws, hways, hrng, hb3⟩
        have HB3 : Hid (Below wQ.heap.size wQ w3) := by rw [hwQ]; exact hb3
        have HWS : Hid (WysAt w3 wo wb 0 vs ∧ Ways ls ps (l.map toB) vs ∧ InRange k vs) := ⟨hws, hways, hrng⟩
        have HVL : Hid (vs.length = l.length) := by show _ = _; rw [hways.1, List.length_map]
        obtain ⟨nv, hnv⟩ : ∃ nv, nv = vs.length := ⟨_, rfl⟩
        have HNV : Hid (nv = vs.length) := hnv
        rw [← hnv]
        have hnv4 : nv ≤ 400 := by have := HVL.out; have := HLN.out; omega
        obtain ⟨bk, hbk⟩ : ∃ bk : Nat → Bool, bk = fun j => if h : j < vs.length then !flowsF (actG ls ps) (letL (actG ls ps)) (bringsV f vs[j]) (goalV f vs[j]) else false := ⟨_, rfl⟩
        have HBK : Hid (∀ j (h : j < vs.length), bk j = !flowsF (actG ls ps) (letL (actG ls ps)) (bringsV f vs[j]) (goalV f vs[j])) := fun j h => by rw [hbk]; simp [h]
        have HXS : Hid (∀ j (h : j < l.length), bk j = true ↔ ¬ Sol.holds ps (toB l[j]) (Sol.hs hv)) := fun j hj => by
          have hjv : j < vs.length := by have := HVL.out; omega
          have hisw := HWS.out.2.1.2 j (by rw [List.length_map]; exact hj) hjv
          rw [List.getElem_map] at hisw
          have hnd := (right_of HF.out).2.2.1.1
          have hflow := hisw.holds hnd h6 (actG_is (right_of HF.out).2.2.1) (L := letL (actG ls ps)) (fun o g _ _ => letL_is h6 (fun i hi => actG_zero hi) o g) HFO.out.2.1
          rw [← Sol.holds_same (h := Sol.fs ls f) (h' := Sol.hs hv) HFO.out.2.2.1 HFO.out.2.2.2, ← hflow, HBK.out j hjv]
          cases flowsF (actG ls ps) (letL (actG ls ps)) (bringsV f vs[j]) (goalV f vs[j]) <;> simp
        clear hwy hb3 hws hways hrng hbk hnv hwQ
        go_wp2
        have HI0 : Hid (w3.ownsRow w3.heap.size 3 1 (.slice none 0 0) (((List.range 0).filter bk).map Int.ofNat).length ((((List.range 0).filter bk).map Int.ofNat).map (Value.int .i64)) ∧ Below w3.heap.size w3 w3) := ⟨World.ownsRow_nil _ _ _ _, Below.refl _ _⟩
        go_loopw [17, 57] (fun v i wq => ∃ j : Nat, j ≤ nv ∧ i = .int .i64 j ∧ Hid (wq.ownsRow w3.heap.size 3 1 v (((List.range j).filter bk).map Int.ofNat).length ((((List.range j).filter bk).map Int.ofNat).map (Value.int .i64)) ∧ Below w3.heap.size w3 wq)) (fun _ i _ => nv - (intOf i).toNat)
        case atStart => exact ⟨0, Nat.zero_le _, rfl, HI0.out⟩
        case round =>
          clear HI0
          obtain ⟨j, hj', rfl, HP⟩ := hrel
          by_cases hlt2 : j < nv
          · have hjv : j < vs.length := by have := HNV.out; omega
            have hwo := HWS.out.1.adr (by omega)
            have hwat := (HWS.out.1.later HP.out.2).at' j hjv
            have hrj := HWS.out.2.2 _ (List.getElem_mem hjv)
            have hstep : ((List.range (j + 1)).filter bk) = (List.range j).filter bk ++ (if bk j = true then [j] else []) := by
              rw [List.range_succ, List.filter_append]
              cases hb : bk j <;> simp [hb]
            have hlen : (((List.range j).filter bk).map Int.ofNat).length ≤ j := by rw [List.length_map]; have := List.length_filter_le bk (List.range j); simpa using this
            have HBV : Hid (bk j = !flowsF (actG ls ps) (letL (actG ls ps)) (bringsV f vs[j]) (goalV f vs[j])) := HBK.out j hjv
            obtain ⟨v, hv0⟩ : ∃ v, v = vs[j] := ⟨_, rfl⟩
            rw [← hv0] at hwat hrj HBV
            rw [Nat.zero_add] at hwat
            obtain ⟨wo1, wb1, woff1, wc1, d0, d400, dint⟩ := hwat.c0
            have d1 := hwat.c1 0 (by omega)
            have d2 := hwat.c1 1 (by omega)
            have d3 := hwat.c1 2 (by omega)
            have d4 := hwat.c1 3 (by omega)
            have d5 := hwat.c1 4 (by omega)
            have d6 := hwat.c1 5 (by omega)
            have d7 := hwat.c2
            have d8 := hwat.c3 0 (by omega)
            have d9 := hwat.c3 1 (by omega)
            have d10 := hwat.c3 2 (by omega)
            have d11 := hwat.c3 3 (by omega)
            have d12 := hwat.c3 4 (by omega)
            have d13 := hwat.c3 5 (by omega)
            have d14 := hwat.c4
            rw [Nat.add_zero] at d1 d8
            have lwb := World.block_lt_of_cell? _ _ d0
            obtain ⟨wy, hwy⟩ : ∃ wy, wy = wr.alloc (.cells #[.slice wo1 v.src.length wc1, .int .u64 (v.told 0), .int .u64 (v.told 1), .int .u64 (v.told 2), .int .u64 (v.told 3), .int .u64 (v.told 4), .int .u64 (v.told 5), .int .i64 v.dst, .int .u64 (v.into 0), .int .u64 (v.into 1), .int .u64 (v.into 2), .int .u64 (v.into 3), .int .u64 (v.into 4), .int .u64 (v.into 5), .int .u8 (v.free : Int)] 84) := ⟨_, rfl⟩
            have hby : Below wr.heap.size wr wy := by rw [hwy]; exact (Below.refl _ _).alloc (Nat.le_refl _) _
            have ky : wy.heap[wr.heap.size]? = some (.cells #[.slice wo1 v.src.length wc1, .int .u64 (v.told 0), .int .u64 (v.told 1), .int .u64 (v.told 2), .int .u64 (v.told 3), .int .u64 (v.told 4), .int .u64 (v.told 5), .int .i64 v.dst, .int .u64 (v.into 0), .int .u64 (v.into 1), .int .u64 (v.into 2), .int .u64 (v.into 3), .int .u64 (v.into 4), .int .u64 (v.into 5), .int .u8 (v.free : Int)] 84 (0, 0)) := by rw [hwy]; exact heap_at_alloc _ _ _ rfl
            have hwya : WyAt wy wr.heap.size 0 v := by
              refine ⟨⟨wo1, wb1, woff1, wc1, cell_blk ky, d400, dint.later hby⟩, fun i hi => ?_, cell_blk ky, fun i hi => ?_, cell_blk ky, hwat.ok1, hwat.ok2, hwat.ok3⟩
              · rw [cell_blk ky]
                match i, hi with
                | 0, _ => rfl
                | 1, _ => rfl
                | 2, _ => rfl
                | 3, _ => rfl
                | 4, _ => rfl
                | 5, _ => rfl
              · rw [cell_blk ky]
                match i, hi with
                | 0, _ => rfl
                | 1, _ => rfl
                | 2, _ => rfl
                | 3, _ => rfl
                | 4, _ => rfl
                | 5, _ => rfl
            have hb3y : Below w3.heap.size w3 wy := HP.out.2.trans (hby.mono HP.out.2.size)
            have hbwy : Below w.heap.size w wy := HWQ.out.2.2.2.trans ((HB3.out.trans (hb3y.mono HB3.out.size)).mono HWQ.out.2.2.2.size)
            have HBWY : Hid (Below w.heap.size w wy ∧ Below w3.heap.size w3 wy ∧ Below w2.heap.size w2 wy) := ⟨hbwy, hb3y, HWQ.out.2.2.1.trans ((HB3.out.trans (hb3y.mono HB3.out.size)).mono HWQ.out.2.2.1.size)⟩
            have HGET : Hid (∀ (W : World) (i : Nat), i < k → Below wy.heap.size wy W → Calls Tryz.prog 40 (#[.int .i64 (i : Int)] ++ #[.pointer (some ⟨w2.heap.size, 0, none⟩)]) W fun e w' => e = .returned (.agg (setA (f i))) ∧ Below W.heap.size W w') := fun W i hi hb => by
              have h1 : Below wQ.heap.size wQ W := (HB3.out.trans (hb3y.mono HB3.out.size)).trans (hb.mono (Nat.le_trans HB3.out.size hb3y.size))
              exact getB w2.heap.size so sb 0 k sc f i W hi (cell_blk ((h1.block _ (lt_of_block HWQ.out.2.1)).trans HWQ.out.2.1)) (HWQ.out.1.later h1)
            have hbr := bringsC 40 #[.pointer (some ⟨w2.heap.size, 0, none⟩)] eg1 f wr.heap.size 0 v wy hwya HFO.out.1 (fun W i hi hb => HGET.out W i (hrj.1 i hi) hb)
            have HGL : Hid (∀ W : World, Below wy.heap.size wy W → Calls Tryz.prog 43 #[.pointer (some ⟨wr.heap.size, 0, none⟩), .func (.func 40) #[] #[.pointer (some ⟨w2.heap.size, 0, none⟩)]] W fun e w' => e = .returned (.agg (setA (goalV f v))) ∧ Below W.heap.size W w') := fun W hb => by
              refine goalC 40 #[.pointer (some ⟨w2.heap.size, 0, none⟩)] eg1 f wr.heap.size 0 v W (hwya.later hb) (fun W' hd hb' => ?_)
              obtain ⟨dd, e1, e2⟩ := hrj.2.resolve_left hd
              have h1 : v.dst.toNat = dd := by rw [e1]; simp
              rw [h1, e1]
              exact HGET.out W' dd e2 (hb.trans (hb'.mono hb.size))
            have hok1 : SetOK (bringsV f v) := brings_ok HFO.out.1 hwat.ok1
            have hok2 : SetOK (goalV f v) := by
              unfold goalV
              split
              · exact hwat.ok2
              · exact HFO.out.1 _
            have HFL : Hid (∀ W : World, Below wy.heap.size wy W → Calls Tryz.prog 41 #[.pointer (some ⟨q, 0, none⟩), .agg (setA (bringsV f v)), .agg (setA (goalV f v))] W fun e w' => e = .returned (.bool (!bk j)) ∧ Below W.heap.size W w') := fun W hb => by
              have := flowsCt q ao n c (actG ls ps) (bringsV f v) (goalV f v) W (HCR.out.later (HBWY.out.2.2.trans (hb.mono HBWY.out.2.2.size))) hok1 hok2 (HT.out.later (HBWY.out.1.trans (hb.mono HBWY.out.1.size)))
              rw [HBV.out, Bool.not_not]
              exact this
            have HWY : Hid (wy = wr.alloc (.cells #[.slice wo1 v.src.length wc1, .int .u64 (v.told 0), .int .u64 (v.told 1), .int .u64 (v.told 2), .int .u64 (v.told 3), .int .u64 (v.told 4), .int .u64 (v.told 5), .int .i64 v.dst, .int .u64 (v.into 0), .int .u64 (v.into 1), .int .u64 (v.into 2), .int .u64 (v.into 3), .int .u64 (v.into 4), .int .u64 (v.into 5), .int .u8 (v.free : Int)] 84)) := hwy
            obtain ⟨s1, hs1⟩ : ∃ s1, s1 = setA (bringsV f v) := ⟨_, rfl⟩
            obtain ⟨s2, hs2⟩ : ∃ s2, s2 = setA (goalV f v) := ⟨_, rfl⟩
            rw [← hs1] at hbr HFL
            rw [← hs2] at HGL HFL
            obtain ⟨xs, hxs⟩ : ∃ xs, xs = ((List.range j).filter bk).map Int.ofNat := ⟨_, rfl⟩
            have HSTP : Hid (((List.range (j + 1)).filter bk).map Int.ofNat = xs ++ (if bk j = true then [Int.ofNat j] else [])) := by
              show _ = _
              rw [hstep, List.map_append, hxs]
              cases bk j <;> rfl
            rw [← hxs] at HP hlen
            obtain ⟨ov, ocap, hov⟩ := slice_of HP.out.1
            subst hov
            have HOW : Hid (wr.ownsRow w3.heap.size 3 1 (.slice ov xs.length ocap) xs.length (xs.map (Value.int .i64))) := HP.out.1
            have HBYY : Hid (Below wr.heap.size wr wy) := hby
            clear hwat hrj hstep hwya ky hby hb3y hbwy hok1 hok2 hs1 hs2 hxs dint d400 hv0 hwy
            subst hwo
            go_wp2_with fail
            rw [← HWY.out]
            clear HWY d0 d1 d2 d3 d4 d5 d6 d7 d8 d9 d10 d11 d12 d13 d14
            refine hbr.mono ?_
            rintro e w5 ⟨rfl, hb5⟩
            have hgl := HGL.out w5 hb5
            have HB5 : Hid (Below wy.heap.size wy w5) := hb5
            clear hbr hb5
            go_wp2_with fail
            refine hgl.mono ?_
            rintro e w6 ⟨rfl, hb6⟩
            have HB6 : Hid (Below wy.heap.size wy w6) := HB5.out.trans (hb6.mono HB5.out.size)
            have hfl := HFL.out w6 HB6.out
            clear hgl hb6
            go_wp2_with fail
            refine hfl.mono ?_
            rintro e w7 ⟨rfl, hb7⟩
            have HB7 : Hid (Below wr.heap.size wr w7) := HBYY.out.trans ((HB6.out.trans (hb7.mono HB6.out.size)).mono HBYY.out.size)
            have HB37 : Hid (Below w3.heap.size w3 w7) := HP.out.2.trans (HB7.out.mono HP.out.2.size)
            have HO7 : Hid (w7.ownsRow w3.heap.size 3 1 (.slice ov xs.length ocap) xs.length (xs.map (Value.int .i64))) := own_below HOW.out HB7.out
            have hbig : w3.heap.size ≤ w7.heap.size := HB37.out.size
            clear hfl hb7
            cases hbj : bk j with
            | false =>
              have HS8 : Hid (((List.range (j + 1)).filter bk).map Int.ofNat = xs) := by show _ = _; rw [HSTP.out, hbj]; simp
              rw [Bool.not_false]
              go_wp2
              go_roundw
              case rel => exact ⟨j + 1, by omega, by go_num, by rw [HS8.out]; exact ⟨HO7.out, HB37.out⟩⟩
              case measure => simp [intOf]; omega
            | true =>
              have HS8 : Hid (((List.range (j + 1)).filter bk).map Int.ofNat = xs ++ [(j : Int)]) := by show _ = _; rw [HSTP.out, hbj]; rfl
              rw [Bool.not_true]
              go_wp2_with (at_builtin; refine wpList_append_own _ rfl _ _ 40 rfl w3.heap.size 3 j0 (.int .i64 0) 1 8 Tryz.underlying40 hj hy0 hy1 hy2 rfl (by decide) _ _ _ rfl (World.ownsRow.alloc HO7.out _) ⟨w7.heap.size, 0, none⟩ 1 1 [.int .i64 (j : Int)] rfl rfl ?c1 ?c2 ?c3 ?c4 ?c5 ?_)
              case c1 => exact one_new _ _ _
              case c2 => intro u hu; simp at hu; subst hu; rfl
              case c3 => unfold maxLen; omega
              case c4 => omega
              case c5 => simp; omega
              · intro v' w8 hown8 hgrow8 _
                have HN8 : Hid (w8.ownsRow w3.heap.size 3 1 v' (xs ++ [(j : Int)]).length ((xs ++ [(j : Int)]).map (Value.int .i64)) ∧ Below w3.heap.size w3 w8) := ⟨by rw [List.length_append, List.map_append]; exact hown8, by
                  have h7 : Below w3.heap.size w3 (w7.alloc (.cells #[.int .i64 (j : Int)] 3)) := HB37.out.alloc HB37.out.size _
                  exact h7.grown hgrow8 h7.size (fun i e => (HO7.out.lt _ e).1)⟩
                clear hown8 hgrow8
                go_wp2
                go_roundw
                case rel => exact ⟨j + 1, by omega, by go_num, by rw [HS8.out]; exact HN8.out⟩
                case measure => simp [intOf]; omega
          · have hjn : j = nv := by omega
            subst hjn
            have hjl : j = l.length := by have := HNV.out; have := HVL.out; omega
            have hlen : (((List.range j).filter bk).map Int.ofNat).length ≤ 400 := by rw [List.length_map]; have := List.length_filter_le bk (List.range j); simp at this; omega
            have HOK : Hid (BrkOK ps hv l (((List.range j).filter bk).map Int.ofNat)) := ⟨bk, HXS.out, by rw [hjl]⟩
            obtain ⟨xs, hxs⟩ : ∃ xs, xs = ((List.range j).filter bk).map Int.ofNat := ⟨_, rfl⟩
            rw [← hxs] at HP HOK hlen
            obtain ⟨xo, xb, xc, e1, hints⟩ := ints_own HP.out.1
            subst e1
            have HEND : Hid (Below w.heap.size w wr ∧ xs.length ≤ 1000 ∧ Ints wr xo xb 0 xs ∧ BrkOK ps hv l xs) := ⟨HWQ.out.2.2.2.trans ((HB3.out.trans (HP.out.2.mono HB3.out.size)).mono HWQ.out.2.2.2.size), by omega, hints, HOK.out⟩
            clear hxs hints
            go_wp2
            go_ret2
            exact ⟨HEND.out.1, .inr ⟨HZE.out, xo, xb, xc, xs, rfl, HEND.out.2⟩⟩
  · obtain ⟨e0, he0⟩ : ∃ e0, e0 = chkB ls ps (nh : Int) l := ⟨_, rfl⟩
    have HB0 : Hid (brkE ls ps hv l = e0) := by show _ = _; rw [HBE.out, if_neg h0, he0]
    rw [HB0.out]
    rw [← he0] at hck h0
    have hb : (e0 == 0) = false := by simp [h0]
    have hb' : (e0 != 0) = true := by simp [h0]
    have HH : Hid (e0 ≠ 0) := h0
    clear h0 he0 HBE
    go_enter Tryz.func15, Tryz.ntmps15
    go_wp2_with fail
    refine hck.mono ?_
    rintro e w1 ⟨rfl, hb1⟩
    have HB1 : Hid (Below w.heap.size w w1) := hb1
    clear hb1 hck
    go_wp2
    go_ret2
    exact ⟨HB1.out, .inl ⟨HH.out, rfl⟩⟩
end Go.Proofs.YtpbknhhjfhpkmaaGreatDoor
