/- Contract of label.whole: a map that has just the pairs of which the first acts for the second. Contracts of label.among, label.Check, label.checkBoth. Sizes of a right label (for seats without label.Flows). -/
import Derived.Test.YtpbknhhjfhpkmaaGreatDoorGaFn
import Derived.Test.YtpbknhhjfhpkmaaGreatDoorOwnC
namespace Go.Proofs.YtpbknhhjfhpkmaaGreatDoor
open Go.RowKit Go.Maps

/- The pairs that the map has behind k rounds, and behind j steps of the round. -/
def upTo (ls : List ByteArray) (ps : List (ByteArray × ByteArray)) (k : Nat) (a b : ByteArray) : Bool := Act.has (ls.take k) b && Act.acts ls ps a b
def upIn (ls : List ByteArray) (ps : List (ByteArray × ByteArray)) (k : Nat) (y : ByteArray) (l : List ByteArray) (a b : ByteArray) : Bool := upTo ls ps k a b || (decide (b = y) && Act.has l a)
theorem upTo_zero (ls : List ByteArray) (ps : List (ByteArray × ByteArray)) (a b : ByteArray) : upTo ls ps 0 a b = false := by simp [upTo, Act.has]
theorem upIn_nil (ls : List ByteArray) (ps : List (ByteArray × ByteArray)) (k : Nat) (y a b : ByteArray) : upIn ls ps k y [] a b = upTo ls ps k a b := by simp [upIn, Act.has]
theorem upIn_snoc (ls : List ByteArray) (ps : List (ByteArray × ByteArray)) (k : Nat) (y : ByteArray) (l : List ByteArray) (s a b : ByteArray) : (upIn ls ps k y l a b || decide ((a, b) = (s, y))) = upIn ls ps k y (l ++ [s]) a b := by
  have e1 : Act.has (l ++ [s]) a = (Act.has l a || decide (a = s)) := by
    rw [Bool.eq_iff_iff]; simp [Act.has]
  have e2 : decide ((a, b) = (s, y)) = (decide (b = y) && decide (a = s)) := by
    rw [Bool.eq_iff_iff]; simp [Prod.ext_iff, and_comm]
  rw [upIn, upIn, e1, e2]
  cases upTo ls ps k a b <;> cases decide (b = y) <;> cases Act.has l a <;> cases decide (a = s) <;> rfl
theorem upIn_all {ls : List ByteArray} {ps : List (ByteArray × ByteArray)} (hr : Act.Right ls ps) {k : Nat} (hk : k < ls.length) (a b : ByteArray) : upIn ls ps k ls[k] (Act.forF ls ps ls[k]) a b = upTo ls ps (k + 1) a b := by
  have e1 : Act.has (ls.take (k + 1)) b = (Act.has (ls.take k) b || decide (b = ls[k])) := by
    rw [Bool.eq_iff_iff, Bool.or_eq_true, Act.has_iff, Act.has_iff, decide_eq_true_eq, List.take_succ_eq_append_getElem hk, List.mem_append, List.mem_singleton]
  rw [upIn, upTo, upTo, e1]
  by_cases e : b = ls[k]
  · subst e
    have e2 : Act.has (Act.forF ls ps ls[k]) a = Act.acts ls ps a ls[k] := by
      rw [Bool.eq_iff_iff, Act.has_iff, Act.forF_mem hr (List.getElem_mem hk)]
      constructor
      · rintro ⟨h1, h2⟩; exact (Act.acts_iff hr h1 (List.getElem_mem hk)).2 h2
      · intro h
        have h1 := (Lab.acts_mem hr h).1
        exact ⟨h1, (Act.acts_iff hr h1 (List.getElem_mem hk)).1 h⟩
    rw [e2]
    cases Act.has (ls.take k) ls[k] <;> cases Act.acts ls ps a ls[k] <;> simp
  · simp [e]
theorem upTo_end {ls : List ByteArray} {ps : List (ByteArray × ByteArray)} (hr : Act.Right ls ps) {k : Nat} (hk : ls.length ≤ k) (a b : ByteArray) : upTo ls ps k a b = Act.acts ls ps a b := by
  rw [upTo, List.take_of_length_le hk]
  cases h : Act.acts ls ps a b with
  | false => simp
  | true => simp [Act.has, (Lab.acts_mem hr h).2]
theorem forV_ok {ls : List ByteArray} {ps : List (ByteArray × ByteArray)} {y : ByteArray} (h : checkF ls ps = 0) (hy : y ∈ ls) : forV ls ps y = Act.forF ls ps y := by
  simp [forV, forE, h, Act.has_iff.2 hy]
theorem forF_len (ls : List ByteArray) (ps : List (ByteArray × ByteArray)) (y : ByteArray) : (Act.forF ls ps y).length ≤ ls.length := List.length_filter_le _ _

/- What the loop holds: the map, at most so many entries. -/
structure MapSt (w wr : World) (B n : Nat) (T : ByteArray → ByteArray → Bool) : Prop where
  map : ∃ m D, m ≤ n ∧ wr.ownsMap Tryz.prog 115 (unitElem (H := Unit)) B m D ∧ HasJust D T
  bel : Below w.heap.size w wr
theorem MapSt.later {w wr w' : World} {B n : Nat} {T : ByteArray → ByteArray → Bool} (h : MapSt w wr B n T) (hb : Below wr.heap.size wr w') : MapSt w w' B n T := by
  obtain ⟨m, D, h0, h1, h2⟩ := h.map
  exact ⟨⟨m, D, h0, h1.kept (row := none) ⟨hb.os, hb.tape, hb.output, hb.size, fun j hj _ => hb.block j hj⟩ (by simp), h2⟩, h.bel.trans (hb.mono h.bel.size)⟩
theorem MapSt.congr {w wr : World} {B n n' : Nat} {T T' : ByteArray → ByteArray → Bool} (h : MapSt w wr B n T) (hn : n ≤ n') (e : ∀ a b, T a b = T' a b) : MapSt w wr B n' T' := by
  obtain ⟨m, D, h0, h1, h2⟩ := h.map
  exact ⟨⟨m, D, by omega, h1, h2.congr e⟩, h.bel⟩
theorem MapSt.ord {w wr : World} {B n : Nat} {T : ByteArray → ByteArray → Bool} (h : MapSt w wr B n T) : Ord wr B T := by
  obtain ⟨m, D, _, h1, h2⟩ := h.map
  exact ⟨m, D, h1, h2⟩

set_option maxRecDepth 100000 in
set_option maxHeartbeats 2000000 in
theorem wholeL (ao po : Option Addr) (b off b' off' n m c d : Nat) (ls : List ByteArray) (ps : List (ByteArray × ByteArray)) (w : World) (hc : Chiefs w ao po b off b' off' n m c ls ps) (h0 : checkF ls ps = 0) :
    Calls Tryz.prog 55 #[.slice ao n c, .slice po m d] w fun e w' => e = .returned (.map (some w.heap.size)) ∧ Ord w' w.heap.size (Act.acts ls ps) ∧ Below w.heap.size w w' := by
  obtain ⟨g1, g2, g3, g4⟩ := right_of h0
  have HC : Hid (Chiefs w ao po b off b' off' n m c ls ps) := hc
  have HZ : Hid (checkF ls ps = 0) := h0
  have HR : Hid (Act.Right ls ps) := g3
  have HNM : Hid (∀ s ∈ ls, Lex.nameF s.data.toList = true) := g4
  have hn6 : n ≤ 6 := by have := hc.ln; omega
  clear hc h0 g1 g2 g3 g4
  have hmm := @run_makeMap Tryz.prog
  go_enter Tryz.func55, Tryz.ntmps55
  go_wp2
  go_loopw [15] (fun i wr => ∃ k : Nat, k ≤ n ∧ i = .int .i64 k ∧ Hid (MapSt w wr w.heap.size (k * 6) (upTo ls ps k))) (fun i _ => n - (intOf i).toNat)
  case atStart =>
    refine ⟨0, Nat.zero_le _, rfl, ⟨⟨0, _, Nat.zero_le _, World.ownsMap_made _ _ _ _, hasJust_nil.congr fun a b => (upTo_zero ls ps a b).symm⟩, (Below.refl _ _).alloc (Nat.le_refl _) _⟩⟩
  case round =>
    obtain ⟨k, hk, rfl, HS⟩ := hrel
    by_cases hlt : k < n
    · have hl0 := HC.out.ln
      have hkl : k < ls.length := by omega
      have hao := HC.out.strs.adr (by omega)
      have f0 := (HC.out.strs.later HS.out.bel).cell k hkl
      obtain ⟨y, hy⟩ : ∃ y, y = ls[k] := ⟨_, rfl⟩
      rw [← hy] at f0
      have HY : Hid (y = ls[k]) := hy
      have HM : Hid (y ∈ ls) := by show y ∈ ls; rw [hy]; exact List.getElem_mem hkl
      have HY12 : Hid (y.size ≤ maxLen) := by
        have := name_short (HNM.out y HM.out)
        show _ ≤ _; unfold maxLen; omega
      have HC1 : Hid (Chiefs wr ao po b off b' off' n m c ls ps) := HC.out.later HS.out.bel
      have HFV : Hid (forV ls ps y = Act.forF ls ps y) := forV_ok HZ.out HM.out
      have HFE : Hid (forE ls ps y = 0) := by show _ = _; simp [forE, HZ.out, Act.has_iff.2 HM.out]
      clear hl0 hy
      subst hao
      go_wp2_with fail
      refine (for_any _ _ _ _ _ _ _ _ _ _ ls ps y _ HC1.out).mono ?_
      rintro e w1 ⟨v1, rfl, hown1, hb1⟩
      rw [HFE.out]
      rw [HFV.out] at hown1
      have hfl := forF_len ls ps y
      obtain ⟨l, hl⟩ : ∃ l, l = Act.forF ls ps y := ⟨_, rfl⟩
      rw [← hl] at hown1 hfl
      have HLF : Hid (l = Act.forF ls ps y) := hl
      obtain ⟨ao1, cap1, hv1⟩ := slice_of hown1
      subst hv1
      obtain ⟨q, hq⟩ : ∃ q, q = l.length := ⟨_, rfl⟩
      rw [← hq] at hown1 ⊢
      have HQ : Hid (q = l.length) := hq
      have hq6 : q ≤ 6 := by have := HC.out.ln; omega
      have HO1 : Hid (w1.ownsRow wr.heap.size 9 1 (.slice ao1 q cap1) q (strC l)) := hown1
      have HS1 : Hid (MapSt w w1 w.heap.size (k * 6) (upTo ls ps k)) := HS.out.later hb1
      have HBZ : Hid (w.heap.size < wr.heap.size) := by
        obtain ⟨_, _, _, hom, _⟩ := HS.out.map
        exact ownsMap_lt hom
      have HSZ : Hid (∀ s ∈ l, s.size ≤ maxLen) := by
        intro s hs
        rw [HLF.out] at hs
        have := name_short (HNM.out s ((Act.forF_mem HR.out HM.out).1 hs).1)
        unfold maxLen; omega
      clear hl hq hown1 hb1 hfl HS
      obtain ⟨wq, hwq⟩ : ∃ wq, wq = wr := ⟨wr, rfl⟩
      subst hwq
      go_wp2
      go_loopw [28] (fun i wx => ∃ j : Nat, j ≤ q ∧ i = .int .i64 j ∧ Hid (MapSt w wx w.heap.size (k * 6 + j) (upIn ls ps k y (l.take j))) ∧ Hid (wx.ownsRow wq.heap.size 9 1 (.slice ao1 q cap1) q (strC l))) (fun i _ => q - (intOf i).toNat)
      case atStart => exact ⟨0, Nat.zero_le _, rfl, HS1.out.congr (Nat.le_refl _) (fun a b => (upIn_nil ls ps k y a b).symm), HO1⟩
      case round =>
        clear HS1 HO1
        obtain ⟨j, hj, rfl, HS, HO⟩ := hrel
        by_cases hlt2 : j < q
        · have hq0 := HQ.out
          have hjl : j < l.length := by omega
          have hO := HO.out
          rw [hq0] at hO
          obtain ⟨a2, b2, c2, hv2, _, _, ss2⟩ := strs_of_own hO
          rw [← hq0] at hv2
          obtain ⟨rfl, _, rfl⟩ : ao1 = a2 ∧ q = q ∧ cap1 = c2 := by simpa using hv2
          have ha2 := ss2.adr (by omega)
          have f1 := ss2.cell j hjl
          have f2 := World.block_lt_of_cell? _ _ f1
          obtain ⟨s, hs⟩ : ∃ s, s = l[j] := ⟨_, rfl⟩
          rw [← hs, Nat.zero_add] at f1
          have HSS : Hid (s.size ≤ maxLen) := HSZ.out s (hs ▸ List.getElem_mem hjl)
          have HTK : Hid (l.take (j + 1) = l.take j ++ [s]) := by show _ = _; rw [List.take_succ_eq_append_getElem hjl, ← hs]
          obtain ⟨mm, D, hle, hom, hj2⟩ := HS.out.map
          have HOM : Hid (wr.ownsMap Tryz.prog 115 (unitElem (H := Unit)) w.heap.size mm D) := hom
          have HJ : Hid (HasJust D (upIn ls ps k y (l.take j))) := hj2
          have HLE : Hid (mm ≤ k * 6 + j) := hle
          have HKEY : Hid (keyOf Tryz.prog 115 (.agg #[.string s, .string y]) = some (pairKey s y)) := pairKey_of HSS.out HY12.out
          have HMX : Hid (mm < maxLen) := by show _ < _; unfold maxLen; omega
          clear hq0 hO ss2 hs hle hom hj2 hv2
          subst ha2
          go_wp2_with (at_mapUpdate; refine wpList_mapUpdate_own (H := Unit) _ rfl _ _ _ 105 rfl 115 158 lawP Tryz.underlying105 _ w.heap.size mm D rfl HOM.out HMX.out _ _ _ rfl rfl HKEY.out _ [] unitElem_mk ?_; intro w2 hown2 hgrow2)
          have HS2 : Hid (MapSt w w2 w.heap.size (k * 6 + (j + 1)) (upIn ls ps k y (l.take (j + 1)))) := by
            refine ⟨⟨mm + 1, _, by have := HLE.out; omega, hown2, ?_⟩, HS.out.bel.grown hgrow2 HS.out.bel.size (fun j hj => by simp at hj; omega)⟩
            refine (hasJust_put HOM.out.isMap HJ.out HSS.out HY12.out _).congr fun a b => ?_
            rw [HTK.out]; exact upIn_snoc ls ps k y _ s a b
          have HO2 : Hid (w2.ownsRow wq.heap.size 9 1 (.slice (some ⟨b2, 0, none⟩) q cap1) q (strC l)) := HO.out.kept hgrow2 (.inr (by
            intro he
            have h1 := (HO.out.lt _ he).1
            have h2 := HBZ.out
            omega))
          clear hown2 hgrow2
          go_wp2
          go_roundw
          case rel => exact ⟨j + 1, by omega, by go_num, HS2, HO2⟩
          case measure => simp [intOf]; omega
        · have HE : Hid (MapSt w wr w.heap.size ((k + 1) * 6) (upTo ls ps (k + 1))) := by
            refine HS.out.congr (by omega) fun a b => ?_
            rw [List.take_of_length_le (by have := HQ.out; omega), HLF.out, HY.out]
            exact upIn_all HR.out hkl a b
          go_wp2
          go_roundw
          case rel => exact ⟨k + 1, by omega, by go_num, HE⟩
          case measure => simp [intOf]; omega
    · have HE : Hid (Ord wr w.heap.size (Act.acts ls ps)) := (HS.out.congr (Nat.le_refl _) (fun a b => upTo_end HR.out (by have := HC.out.ln; omega) a b)).ord
      go_wp2
      go_ret
      exact ⟨rfl, HE.out, HS.out.bel⟩
end Go.Proofs.YtpbknhhjfhpkmaaGreatDoor

namespace Go.Proofs.YtpbknhhjfhpkmaaGreatDoor
open Go.RowKit

/- A label that came in: where it lies, how long its names are. -/
structure LabAt (w : World) (ao : Option Addr) (b off n c : Nat) (x : List Pol) : Prop where
  ln : n = x.length
  mn : n ≤ maxLen
  cap : n ≤ c
  pols : Pols w ao b off x
  sz : ∀ p ∈ x, p.1.size ≤ maxLen ∧ ∀ r ∈ p.2, r.size ≤ maxLen
theorem LabAt.later {w w' : World} {ao : Option Addr} {b off n c : Nat} {x : List Pol} (h : LabAt w ao b off n c x) (hb : Below w.heap.size w w') : LabAt w' ao b off n c x :=
  ⟨h.ln, h.mn, h.cap, h.pols.later hb, h.sz⟩

theorem all_step {ls l : List ByteArray} {k : Nat} (hk : k < l.length) (h : ∀ s ∈ l.take k, s ∈ ls) (g : l[k] ∈ ls) : ∀ s ∈ l.take (k + 1), s ∈ ls := by
  intro s hs
  rw [List.take_succ_eq_append_getElem hk, List.mem_append, List.mem_singleton] at hs
  rcases hs with hs | hs
  · exact h s hs
  · rw [hs]; exact g
theorem among_who {ls l : List ByteArray} (h : l.length ≤ 6) {s : ByteArray} (hs : s ∈ l) (hn : s ∉ ls) : amongF ls l = 5 := by
  unfold amongF
  rw [if_neg (by omega), if_neg]
  intro ha
  exact hn (Act.has_iff.1 (List.all_eq_true.1 ha s hs))

set_option maxRecDepth 100000 in
set_option maxHeartbeats 1000000 in
theorem among_any (ao vo : Option Addr) (b off b' off' n m c d : Nat) (ls l : List ByteArray) (w : World) (hn : n = ls.length) (hm : n ≤ maxLen) (hl : m = l.length) (hlm : m ≤ maxLen) (ht : Strs w ao b off ls) (hv : Strs w vo b' off' l) :
    Calls Tryz.prog 76 #[.slice ao n c, .slice vo m d] w fun e w' => e = .returned (.int .i64 (amongF ls l)) ∧ w' = w := by
  have HN : Hid (n = ls.length) := hn
  have HL : Hid (m = l.length) := hl
  have HM : Hid (n ≤ maxLen) := hm
  unfold maxLen at hlm
  by_cases h6 : 6 < m
  · have HF : Hid (amongF ls l = 2) := by show _ = _; unfold amongF; rw [if_pos (by omega)]
    clear hn hm hl
    go_enter Tryz.func76, Tryz.ntmps76
    go_wp2
    go_ret
    refine ⟨?_, rfl⟩
    rw [HF.out]; rfl
  · clear hn hm hl
    go_enter Tryz.func76, Tryz.ntmps76
    go_wp2
    go_loopw [12] (fun i wr => ∃ k : Nat, k ≤ m ∧ i = .int .i64 k ∧ Hid (∀ s ∈ l.take k, s ∈ ls) ∧ wr = w) (fun i _ => m - (intOf i).toNat)
    case atStart => exact ⟨0, Nat.zero_le _, rfl, by show ∀ s ∈ _, _; simp, rfl⟩
    case round =>
      obtain ⟨k, hk, rfl, HA, hw⟩ := hrel
      subst hw
      by_cases hlt : k < m
      · have hl0 := HL.out
        have hkl : k < l.length := by omega
        have hao := hv.adr (by omega)
        have f0 := hv.cell k hkl
        obtain ⟨x, hx⟩ : ∃ x, x = l[k] := ⟨_, rfl⟩
        rw [← hx] at f0
        have HX : Hid (x = l[k]) := hx
        have hct := contains_any ao b off n c ls x wr HN.out HM.out ht
        clear hl0 hx
        subst hao
        cases hh : Act.has ls x with
        | true =>
          rw [hh] at hct
          have HS : Hid (∀ s ∈ l.take (k + 1), s ∈ ls) := all_step hkl HA.out (by rw [← HX.out]; exact Act.has_iff.1 hh)
          clear hh
          go_wp2_with fail
          refine hct.mono ?_
          rintro e w1 ⟨rfl, hw⟩
          have hw' := hw.symm
          subst hw'
          go_wp2
          go_roundw
          case rel => exact ⟨k + 1, by omega, by go_num, HS, trivial⟩
          case measure => simp [intOf]; omega
        | false =>
          rw [hh] at hct
          have HF : Hid (amongF ls l = 5) := among_who (by have := HL.out; omega) (List.getElem_mem hkl) (by rw [← HX.out]; exact Act.has_not.1 hh)
          clear hh
          go_wp2_with fail
          refine hct.mono ?_
          rintro e w1 ⟨rfl, hw⟩
          have hw' := hw.symm
          subst hw'
          go_wp2
          go_ret
          refine ⟨?_, rfl⟩
          rw [HF.out]; rfl
      · have HF : Hid (amongF ls l = 0) := by
          have h := HA.out
          rw [List.take_of_length_le (by have := HL.out; omega)] at h
          exact among_of (by have := HL.out; omega) h
        go_wp2
        go_ret
        refine ⟨?_, rfl⟩
        rw [HF.out]; rfl

theorem chkL_step {ls : List ByteArray} {x : List Pol} {k : Nat} (hk : k < x.length) (h1 : amongF ls x[k].2 = 0) (h2 : Act.has ls x[k].1 = true) : chkL ls (x.drop k) = chkL ls (x.drop (k + 1)) := by
  rw [List.drop_eq_getElem_cons hk, chkL, if_pos h1, if_pos h2]
theorem chkL_owner {ls : List ByteArray} {x : List Pol} {k : Nat} (hk : k < x.length) (h1 : amongF ls x[k].2 = 0) (h2 : Act.has ls x[k].1 = false) : chkL ls (x.drop k) = 5 := by
  rw [List.drop_eq_getElem_cons hk, chkL, if_pos h1, if_neg (by rw [h2]; simp)]
theorem chkL_readers {ls : List ByteArray} {x : List Pol} {k : Nat} (hk : k < x.length) (h1 : amongF ls x[k].2 ≠ 0) : chkL ls (x.drop k) = amongF ls x[k].2 := by
  rw [List.drop_eq_getElem_cons hk, chkL, if_neg h1]

set_option maxRecDepth 100000 in
set_option maxHeartbeats 2000000 in
theorem checkLab (ao po lo : Option Addr) (b off b' off' n m c d lb loff ln lc : Nat) (ls : List ByteArray) (ps : List (ByteArray × ByteArray)) (x : List Pol) (w : World) (hc : Chiefs w ao po b off b' off' n m c ls ps) (hx : LabAt w lo lb loff ln lc x) :
    Calls Tryz.prog 38 #[.slice ao n c, .slice po m d, .slice lo ln lc] w fun e w' => e = .returned (.int .i64 (checkL ls ps x)) ∧ Below w.heap.size w w' := by
  have HC : Hid (Chiefs w ao po b off b' off' n m c ls ps) := hc
  have HX : Hid (LabAt w lo lb loff ln lc x) := hx
  have hlm := hx.mn
  unfold maxLen at hlm
  clear hc hx
  by_cases h0 : checkF ls ps = 0
  · have HZ : Hid (checkF ls ps = 0) := h0
    clear h0
    by_cases h200 : 200 < ln
    · have HF : Hid (checkL ls ps x = 2) := by show _ = _; unfold checkL; rw [if_pos HZ.out, if_pos (by have := HX.out.ln; omega)]
      go_enter Tryz.func38, Tryz.ntmps38
      go_wp2_with fail
      refine (check_of HC).mono ?_
      rintro e w1 ⟨rfl, hb1⟩
      rw [HZ.out]
      go_wp2
      go_ret
      refine ⟨?_, hb1⟩
      rw [HF.out]; rfl
    · have HF : Hid (checkL ls ps x = chkL ls x) := by show _ = _; unfold checkL; rw [if_pos HZ.out, if_neg (by have := HX.out.ln; omega)]
      rw [HF.out]
      go_enter Tryz.func38, Tryz.ntmps38
      go_wp2_with fail
      refine (check_of HC).mono ?_
      rintro e w1 ⟨rfl, hb1⟩
      rw [HZ.out]
      have HB1 : Hid (Below w.heap.size w w1) := hb1
      clear hb1 HF
      go_wp2
      go_loopw [22] (fun i wr => ∃ k : Nat, k ≤ ln ∧ i = .int .i64 k ∧ Hid (chkL ls (x.drop k) = chkL ls x) ∧ Hid (Below w.heap.size w wr)) (fun i _ => ln - (intOf i).toNat)
      case atStart => exact ⟨0, Nat.zero_le _, rfl, by show _ = _; simp, HB1⟩
      case round =>
        clear HB1
        obtain ⟨k, hk, rfl, HK, HB⟩ := hrel
        by_cases hlt : k < ln
        · have hl0 := HX.out.ln
          have hkl : k < x.length := by omega
          have hX := HX.out.later HB.out
          have hao := hX.pols.adr (by omega)
          have f0 := hX.pols.c0 k hkl
          obtain ⟨v, f1, hv⟩ := hX.pols.c1 k hkl
          obtain ⟨p, hp⟩ : ∃ p, p = x[k] := ⟨_, rfl⟩
          rw [← hp] at f0 hv
          obtain ⟨o, rs⟩ := p
          simp only at f0 hv
          have HP : Hid ((o, rs) = x[k]) := hp
          obtain ⟨ro, rb, roff, rc, hv1, hv2, hv3, hv4⟩ := hv
          subst hv1
          have hbn : Below w.heap.size w (wr.alloc (.cells #[.string o, .slice ro rs.length rc] 63)) := HB.out.alloc HB.out.size _
          have hb0 : Below wr.heap.size wr (wr.alloc (.cells #[.string o, .slice ro rs.length rc] 63)) := (Below.refl _ _).alloc (Nat.le_refl _) _
          have hC := HC.out.later hbn
          have ham := among_any ao ro b off rb roff n rs.length c rc ls rs (wr.alloc (.cells #[.string o, .slice ro rs.length rc] 63)) hC.ln hC.mn rfl (by omega) hC.strs (hv4.later hb0)
          have hct := contains_any ao b off n c ls o (wr.alloc (.cells #[.string o, .slice ro rs.length rc] 63)) hC.ln hC.mn hC.strs
          have HBN : Hid (Below w.heap.size w (wr.alloc (.cells #[.string o, .slice ro rs.length rc] 63))) := hbn
          obtain ⟨rn, hrn⟩ : ∃ rn, rn = rs.length := ⟨_, rfl⟩
          rw [← hrn] at f1 ham hct HBN
          clear hl0 hp hX hv2 hv3 hv4 hbn hb0 hC hrn
          subst hao
          by_cases ha : amongF ls rs = 0
          · rw [ha] at ham
            have HAM : Hid (amongF ls rs = 0) := ha
            clear ha
            cases hh : Act.has ls o with
            | true =>
              rw [hh] at hct
              have HS : Hid (chkL ls (x.drop (k + 1)) = chkL ls x) := by
                show _ = _
                rw [← HK.out, chkL_step hkl (by rw [← HP.out]; exact HAM.out) (by rw [← HP.out]; exact hh)]
              clear hh
              go_wp2_with fail
              refine ham.mono ?_
              rintro e w1 ⟨rfl, hw⟩
              have hw' := hw.symm
              subst hw'
              go_wp2_with fail
              refine hct.mono ?_
              rintro e w1 ⟨rfl, hw⟩
              have hw' := hw.symm
              subst hw'
              go_wp2
              go_roundw
              case rel => exact ⟨k + 1, by omega, by go_num, HS, HBN⟩
              case measure => simp [intOf]; omega
            | false =>
              rw [hh] at hct
              have HF : Hid (chkL ls x = 5) := by
                show _ = _
                rw [← HK.out, chkL_owner hkl (by rw [← HP.out]; exact HAM.out) (by rw [← HP.out]; exact hh)]
              clear hh
              go_wp2_with fail
              refine ham.mono ?_
              rintro e w1 ⟨rfl, hw⟩
              have hw' := hw.symm
              subst hw'
              go_wp2_with fail
              refine hct.mono ?_
              rintro e w1 ⟨rfl, hw⟩
              have hw' := hw.symm
              subst hw'
              go_wp2
              go_ret
              refine ⟨?_, HBN.out⟩
              rw [HF.out]; rfl
          · have HF : Hid (chkL ls x = amongF ls rs) := by
              show _ = _
              rw [← HK.out, chkL_readers hkl (by rw [← HP.out]; exact ha), ← HP.out]
            obtain ⟨e0, he0⟩ : ∃ e0, e0 = amongF ls rs := ⟨_, rfl⟩
            rw [← he0] at HF ham ha
            have hb : (e0 == 0) = false := by simp [ha]
            have hb' : (e0 != 0) = true := by simp [ha]
            clear he0 ha
            go_wp2_with fail
            refine ham.mono ?_
            rintro e w1 ⟨rfl, hw⟩
            have hw' := hw.symm
            subst hw'
            go_wp2
            go_ret
            refine ⟨?_, HBN.out⟩
            rw [HF.out]; rfl
        · have HF : Hid (chkL ls x = 0) := by
            have e := HK.out
            rw [List.drop_of_length_le (by have := HX.out.ln; omega)] at e
            show _ = _
            rw [← e]; rfl
          go_wp2
          go_ret
          refine ⟨?_, HB.out⟩
          rw [HF.out]; rfl
  · have HF : Hid (checkL ls ps x = checkF ls ps) := by show _ = _; unfold checkL; rw [if_neg h0]
    obtain ⟨e0, he0⟩ : ∃ e0, e0 = checkF ls ps := ⟨_, rfl⟩
    have HZ : Hid (checkF ls ps = e0) := he0.symm
    have hb : (e0 == 0) = false := by simp [he0, h0]
    have hb' : (e0 != 0) = true := by simp [he0, h0]
    rw [HF.out, HZ.out]
    clear HF h0 he0
    go_enter Tryz.func38, Tryz.ntmps38
    go_wp2_with fail
    refine (check_of HC).mono ?_
    rintro e w1 ⟨rfl, hb1⟩
    rw [HZ.out]
    go_wp2
    go_ret
    exact ⟨rfl, hb1⟩

end Go.Proofs.YtpbknhhjfhpkmaaGreatDoor

namespace Go.Proofs.YtpbknhhjfhpkmaaGreatDoor
open Go.RowKit Go.Maps

theorem szp_of {ls : List ByteArray} {ps : List (ByteArray × ByteArray)} {x : List Pol} (h : checkL ls ps x = 0) : ∀ p ∈ x, SzP p := by
  obtain ⟨h0, _, h1, h2⟩ := checkL_ok h
  obtain ⟨_, _, _, hn⟩ := right_of h0
  have hz : ∀ s ∈ ls, s.size ≤ maxLen := fun s hs => by have := name_short (hn s hs); unfold maxLen; omega
  intro p hp
  exact ⟨hz _ (h1 p hp).1, by have := h2 p hp; omega, fun r hr => hz _ ((h1 p hp).2 r hr)⟩

end Go.Proofs.YtpbknhhjfhpkmaaGreatDoor
