/- Contract of label.whole: a map that has just the pairs of which the first acts for the second. -/
import Derived.Test.YtjidnkecjkngnaaOrdC
import Derived.Test.YtjidnkecjkngnaaOwnC
namespace Go.Proofs.Ytjidnkecjkngnaa
open Go.RowKit Go.Maps

/- The pairs that the map has behind k rounds, and behind j steps of the round. -/
def upTo (ls : List ByteArray) (ps : List (ByteArray × ByteArray)) (k : Nat) (a b : ByteArray) : Bool := Act.has (ls.take k) b && Act.acts ls ps a b
def upIn (ls : List ByteArray) (ps : List (ByteArray × ByteArray)) (k : Nat) (y : ByteArray) (l : List ByteArray) (a b : ByteArray) : Bool := upTo ls ps k a b || (decide (b = y) && Act.has l a)
theorem upTo_zero (ls : List ByteArray) (ps : List (ByteArray × ByteArray)) (a b : ByteArray) : upTo ls ps 0 a b = false := by simp [upTo, Act.has]
theorem upIn_nil (ls : List ByteArray) (ps : List (ByteArray × ByteArray)) (k : Nat) (y a b : ByteArray) : upIn ls ps k y [] a b = upTo ls ps k a b := by simp [upIn, Act.has]
theorem upIn_snoc (ls : List ByteArray) (ps : List (ByteArray × ByteArray)) (k : Nat) (y : ByteArray) (l : List ByteArray) (s a b : ByteArray) : (upIn ls ps k y l a b || decide ((a, b) = (s, y))) = upIn ls ps k y (l ++ [s]) a b := by
  have e1 : Act.has (l ++ [s]) a = (Act.has l a || decide (a = s)) := by
    rw [Bool.eq_iff_iff]; simp [Act.has]
  have e2 : decide ((a, b) = (s, y)) = (decide (b = y) && decide (a = s)) := by
    rw [Bool.eq_iff_iff]; simp [Prod.ext_iff, and_comm]
  rw [upIn, upIn, e1, e2]
  cases upTo ls ps k a b <;> cases decide (b = y) <;> cases Act.has l a <;> cases decide (a = s) <;> rfl
theorem upIn_all {ls : List ByteArray} {ps : List (ByteArray × ByteArray)} (hr : Act.Right ls ps) {k : Nat} (hk : k < ls.length) (a b : ByteArray) : upIn ls ps k ls[k] (Act.forF ls ps ls[k]) a b = upTo ls ps (k + 1) a b := by
  have e1 : Act.has (ls.take (k + 1)) b = (Act.has (ls.take k) b || decide (b = ls[k])) := by
    rw [Bool.eq_iff_iff, Bool.or_eq_true, Act.has_iff, Act.has_iff, decide_eq_true_eq, List.take_succ_eq_append_getElem hk, List.mem_append, List.mem_singleton]
  rw [upIn, upTo, upTo, e1]
  by_cases e : b = ls[k]
  · subst e
    have e2 : Act.has (Act.forF ls ps ls[k]) a = Act.acts ls ps a ls[k] := by
      rw [Bool.eq_iff_iff, Act.has_iff, Act.forF_mem hr (List.getElem_mem hk)]
      constructor
      · rintro ⟨h1, h2⟩; exact (Act.acts_iff hr h1 (List.getElem_mem hk)).2 h2
      · intro h
        have h1 := (Lab.acts_mem hr h).1
        exact ⟨h1, (Act.acts_iff hr h1 (List.getElem_mem hk)).1 h⟩
    rw [e2]
    cases Act.has (ls.take k) ls[k] <;> cases Act.acts ls ps a ls[k] <;> simp
  · simp [e]
theorem upTo_end {ls : List ByteArray} {ps : List (ByteArray × ByteArray)} (hr : Act.Right ls ps) {k : Nat} (hk : ls.length ≤ k) (a b : ByteArray) : upTo ls ps k a b = Act.acts ls ps a b := by
  rw [upTo, List.take_of_length_le hk]
  cases h : Act.acts ls ps a b with
  | false => simp
  | true => simp [Act.has, (Lab.acts_mem hr h).2]
theorem forV_ok {ls : List ByteArray} {ps : List (ByteArray × ByteArray)} {y : ByteArray} (h : checkF ls ps = 0) (hy : y ∈ ls) : forV ls ps y = Act.forF ls ps y := by
  simp [forV, forE, h, Act.has_iff.2 hy]
theorem forF_len (ls : List ByteArray) (ps : List (ByteArray × ByteArray)) (y : ByteArray) : (Act.forF ls ps y).length ≤ ls.length := List.length_filter_le _ _

/- What the loop holds: the map, at most so many entries. -/
structure MapSt (w wr : World) (B n : Nat) (T : ByteArray → ByteArray → Bool) : Prop where
  map : ∃ m D, m ≤ n ∧ wr.ownsMap Try.prog 35 (unitElem (H := Unit)) B m D ∧ HasJust D T
  bel : Below w.heap.size w wr
theorem MapSt.later {w wr w' : World} {B n : Nat} {T : ByteArray → ByteArray → Bool} (h : MapSt w wr B n T) (hb : Below wr.heap.size wr w') : MapSt w w' B n T := by
  obtain ⟨m, D, h0, h1, h2⟩ := h.map
  exact ⟨⟨m, D, h0, h1.kept (row := none) ⟨hb.os, hb.tape, hb.output, hb.size, fun j hj _ => hb.block j hj⟩ (by simp), h2⟩, h.bel.trans (hb.mono h.bel.size)⟩
theorem MapSt.congr {w wr : World} {B n n' : Nat} {T T' : ByteArray → ByteArray → Bool} (h : MapSt w wr B n T) (hn : n ≤ n') (e : ∀ a b, T a b = T' a b) : MapSt w wr B n' T' := by
  obtain ⟨m, D, h0, h1, h2⟩ := h.map
  exact ⟨⟨m, D, by omega, h1, h2.congr e⟩, h.bel⟩
theorem MapSt.ord {w wr : World} {B n : Nat} {T : ByteArray → ByteArray → Bool} (h : MapSt w wr B n T) : Ord wr B T := by
  obtain ⟨m, D, _, h1, h2⟩ := h.map
  exact ⟨m, D, h1, h2⟩

set_option maxRecDepth 100000 in
set_option maxHeartbeats 2000000 in
theorem wholeL (ao po : Option Addr) (b off b' off' n m c d : Nat) (ls : List ByteArray) (ps : List (ByteArray × ByteArray)) (w : World) (hc : Chiefs w ao po b off b' off' n m c ls ps) (h0 : checkF ls ps = 0) :
    Calls Try.prog 31 #[.slice ao n c, .slice po m d] w fun e w' => e = .returned (.map (some w.heap.size)) ∧ Ord w' w.heap.size (Act.acts ls ps) ∧ Below w.heap.size w w' := by
  obtain ⟨g1, g2, g3, g4⟩ := right_of h0
  have HC : Hid (Chiefs w ao po b off b' off' n m c ls ps) := hc
  have HZ : Hid (checkF ls ps = 0) := h0
  have HR : Hid (Act.Right ls ps) := g3
  have HNM : Hid (∀ s ∈ ls, Lex.nameF s.data.toList = true) := g4
  have hn6 : n ≤ 6 := by have := hc.ln; omega
  clear hc h0 g1 g2 g3 g4
  have hmm := @run_makeMap Try.prog
  go_enter Try.func31, Try.ntmps31
  go_wp2
  go_loopw [15] (fun i wr => ∃ k : Nat, k ≤ n ∧ i = .int .i64 k ∧ Hid (MapSt w wr w.heap.size (k * 6) (upTo ls ps k))) (fun i _ => n - (intOf i).toNat)
  case atStart =>
    refine ⟨0, Nat.zero_le _, rfl, ⟨⟨0, _, Nat.zero_le _, World.ownsMap_made _ _ _ _, hasJust_nil.congr fun a b => (upTo_zero ls ps a b).symm⟩, (Below.refl _ _).alloc (Nat.le_refl _) _⟩⟩
  case round =>
    obtain ⟨k, hk, rfl, HS⟩ := hrel
    by_cases hlt : k < n
    · have hl0 := HC.out.ln
      have hkl : k < ls.length := by omega
      have hao := HC.out.strs.adr (by omega)
      have f0 := (HC.out.strs.later HS.out.bel).cell k hkl
      obtain ⟨y, hy⟩ : ∃ y, y = ls[k] := ⟨_, rfl⟩
      rw [← hy] at f0
      have HY : Hid (y = ls[k]) := hy
      have HM : Hid (y ∈ ls) := by show y ∈ ls; rw [hy]; exact List.getElem_mem hkl
      have HY12 : Hid (y.size ≤ maxLen) := by
        have := name_short (HNM.out y HM.out)
        show _ ≤ _; unfold maxLen; omega
      have HC1 : Hid (Chiefs wr ao po b off b' off' n m c ls ps) := HC.out.later HS.out.bel
      have HFV : Hid (forV ls ps y = Act.forF ls ps y) := forV_ok HZ.out HM.out
      have HFE : Hid (forE ls ps y = 0) := by show _ = _; simp [forE, HZ.out, Act.has_iff.2 HM.out]
      clear hl0 hy
      subst hao
      go_wp2_with fail
      refine (for_any _ _ _ _ _ _ _ _ _ _ ls ps y _ HC1.out).mono ?_
      rintro e w1 ⟨v1, rfl, hown1, hb1⟩
      rw [HFE.out]
      rw [HFV.out] at hown1
      have hfl := forF_len ls ps y
      obtain ⟨l, hl⟩ : ∃ l, l = Act.forF ls ps y := ⟨_, rfl⟩
      rw [← hl] at hown1 hfl
      have HLF : Hid (l = Act.forF ls ps y) := hl
      obtain ⟨ao1, cap1, hv1⟩ := slice_of hown1
      subst hv1
      obtain ⟨q, hq⟩ : ∃ q, q = l.length := ⟨_, rfl⟩
      rw [← hq] at hown1 ⊢
      have HQ : Hid (q = l.length) := hq
      have hq6 : q ≤ 6 := by have := HC.out.ln; omega
      have HO1 : Hid (w1.ownsRow wr.heap.size 9 1 (.slice ao1 q cap1) q (strC l)) := hown1
      have HS1 : Hid (MapSt w w1 w.heap.size (k * 6) (upTo ls ps k)) := HS.out.later hb1
      have HBZ : Hid (w.heap.size < wr.heap.size) := by
        obtain ⟨_, _, _, hom, _⟩ := HS.out.map
        exact ownsMap_lt hom
      have HSZ : Hid (∀ s ∈ l, s.size ≤ maxLen) := by
        intro s hs
        rw [HLF.out] at hs
        have := name_short (HNM.out s ((Act.forF_mem HR.out HM.out).1 hs).1)
        unfold maxLen; omega
      clear hl hq hown1 hb1 hfl HS
      obtain ⟨wq, hwq⟩ : ∃ wq, wq = wr := ⟨wr, rfl⟩
      subst hwq
      go_wp2
      go_loopw [28] (fun i wx => ∃ j : Nat, j ≤ q ∧ i = .int .i64 j ∧ Hid (MapSt w wx w.heap.size (k * 6 + j) (upIn ls ps k y (l.take j))) ∧ Hid (wx.ownsRow wq.heap.size 9 1 (.slice ao1 q cap1) q (strC l))) (fun i _ => q - (intOf i).toNat)
      case atStart => exact ⟨0, Nat.zero_le _, rfl, HS1.out.congr (Nat.le_refl _) (fun a b => (upIn_nil ls ps k y a b).symm), HO1⟩
      case round =>
        clear HS1 HO1
        obtain ⟨j, hj, rfl, HS, HO⟩ := hrel
        by_cases hlt2 : j < q
        · have hq0 := HQ.out
          have hjl : j < l.length := by omega
          have hO := HO.out
          rw [hq0] at hO
          obtain ⟨a2, b2, c2, hv2, _, _, ss2⟩ := strs_of_own hO
          rw [← hq0] at hv2
          obtain ⟨rfl, _, rfl⟩ : ao1 = a2 ∧ q = q ∧ cap1 = c2 := by simpa using hv2
          have ha2 := ss2.adr (by omega)
          have f1 := ss2.cell j hjl
          have f2 := World.block_lt_of_cell? _ _ f1
          obtain ⟨s, hs⟩ : ∃ s, s = l[j] := ⟨_, rfl⟩
          rw [← hs, Nat.zero_add] at f1
          have HSS : Hid (s.size ≤ maxLen) := HSZ.out s (hs ▸ List.getElem_mem hjl)
          have HTK : Hid (l.take (j + 1) = l.take j ++ [s]) := by show _ = _; rw [List.take_succ_eq_append_getElem hjl, ← hs]
          obtain ⟨mm, D, hle, hom, hj2⟩ := HS.out.map
          have HOM : Hid (wr.ownsMap Try.prog 35 (unitElem (H := Unit)) w.heap.size mm D) := hom
          have HJ : Hid (HasJust D (upIn ls ps k y (l.take j))) := hj2
          have HLE : Hid (mm ≤ k * 6 + j) := hle
          have HKEY : Hid (keyOf Try.prog 35 (.agg #[.string s, .string y]) = some (pairKey s y)) := pairKey_of HSS.out HY12.out
          have HMX : Hid (mm < maxLen) := by show _ < _; unfold maxLen; omega
          clear hq0 hO ss2 hs hle hom hj2 hv2
          subst ha2
          go_wp2_with (at_mapUpdate; refine wpList_mapUpdate_own (H := Unit) _ rfl _ _ _ 67 rfl 35 87 lawP Try.underlying67 _ w.heap.size mm D rfl HOM.out HMX.out _ _ _ rfl rfl HKEY.out _ [] unitElem_mk ?_; intro w2 hown2 hgrow2)
          have HS2 : Hid (MapSt w w2 w.heap.size (k * 6 + (j + 1)) (upIn ls ps k y (l.take (j + 1)))) := by
            refine ⟨⟨mm + 1, _, by have := HLE.out; omega, hown2, ?_⟩, HS.out.bel.grown hgrow2 HS.out.bel.size (fun j hj => by simp at hj; omega)⟩
            refine (hasJust_put HOM.out.isMap HJ.out HSS.out HY12.out _).congr fun a b => ?_
            rw [HTK.out]; exact upIn_snoc ls ps k y _ s a b
          have HO2 : Hid (w2.ownsRow wq.heap.size 9 1 (.slice (some ⟨b2, 0, none⟩) q cap1) q (strC l)) := HO.out.kept hgrow2 (.inr (by
            intro he
            have h1 := (HO.out.lt _ he).1
            have h2 := HBZ.out
            omega))
          clear hown2 hgrow2
          go_wp2
          go_roundw
          case rel => exact ⟨j + 1, by omega, by go_num, HS2, HO2⟩
          case measure => simp [intOf]; omega
        · have HE : Hid (MapSt w wr w.heap.size ((k + 1) * 6) (upTo ls ps (k + 1))) := by
            refine HS.out.congr (by omega) fun a b => ?_
            rw [List.take_of_length_le (by have := HQ.out; omega), HLF.out, HY.out]
            exact upIn_all HR.out hkl a b
          go_wp2
          go_roundw
          case rel => exact ⟨k + 1, by omega, by go_num, HE⟩
          case measure => simp [intOf]; omega
    · have HE : Hid (Ord wr w.heap.size (Act.acts ls ps)) := (HS.out.congr (Nat.le_refl _) (fun a b => upTo_end HR.out (by have := HC.out.ln; omega) a b)).ord
      go_wp2
      go_ret
      exact ⟨rfl, HE.out, HS.out.bel⟩
end Go.Proofs.Ytjidnkecjkngnaa
