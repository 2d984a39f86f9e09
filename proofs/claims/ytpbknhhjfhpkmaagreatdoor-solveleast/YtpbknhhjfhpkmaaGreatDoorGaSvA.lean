/- Contract of solve's court: ways. Labels in a row, in plain words and in memory. -/
import Derived.Test.YtpbknhhjfhpkmaaGreatDoorGaSolV
import Derived.Test.YtpbknhhjfhpkmaaGreatDoorSolY
import Derived.Test.YtpbknhhjfhpkmaaGreatDoorGaSolK
import Derived.Test.YtpbknhhjfhpkmaaGreatDoorGaSolG
import Derived.Deep.AppendLies
import Derived.Test.YtpbknhhjfhpkmaaGreatDoorGaNorm
namespace Go.Proofs.YtpbknhhjfhpkmaaGreatDoor
open Go.RowKit

def toB (x : RBd) : Sol.Bnd ByteArray := ⟨x.src.map Int.toNat, x.lab, x.dst, x.into, x.by_⟩
structure GoodB (ls : List ByteArray) (N : Nat) (x : RBd) : Prop where
  dst : x.dst = -1 ∨ ∃ d : Nat, x.dst = (d : Int) ∧ d < N
  few : x.src.length ≤ 400
  src : ∀ i ∈ x.src, 0 ≤ i ∧ i < N
  lab : Lab.OfL ls x.lab
  into : Lab.OfL ls x.into
  by6 : x.by_.length ≤ 6
  by_ : ∀ s ∈ x.by_, s ∈ ls
theorem good_of {ls : List ByteArray} {ps : List (ByteArray × ByteArray)} {N : Nat} {x : RBd} (h : oneE ls ps N x = 0) : GoodB ls N x := by
  unfold oneE at h
  split at h
  · cases h
  rename_i hr
  split at h
  · rename_i h1
    split at h
    · rename_i h2
      split at h
      · cases h
      rename_i h3
      split at h
      · cases h
      rename_i h4
      unfold rngB at hr
      simp only [Bool.or_eq_true, not_or, Bool.not_eq_true, Bool.and_eq_false_iff, decide_eq_false_iff_not] at hr
      obtain ⟨⟨r1, r2⟩, r3⟩ := hr
      refine ⟨?_, by omega, fun i hi => ?_, (checkL_ok h1).2.2.1, (checkL_ok h2).2.2.1, by omega, fun s hs => ?_⟩
      · rcases r1 with r1 | r1
        · exact .inl (by omega)
        · unfold noneB at r1
          simp at r1
          exact .inr ⟨x.dst.toNat, by omega, by omega⟩
      · have := List.any_eq_false.1 r3 i hi
        unfold noneB at this
        simp at this
        omega
      · have h5 : ∀ s ∈ x.by_, Act.has ls s = true := by simpa using h4
        exact Act.has_iff.1 (h5 s hs)
    · rename_i h2
      exact absurd h h2
  · rename_i h1
    exact absurd h h1
/- A way with the value of its numbers. -/
abbrev YV := WayV × Value
def encY (y : YV) : List Value := [y.2, .int .u64 (y.1.told 0), .int .u64 (y.1.told 1), .int .u64 (y.1.told 2), .int .u64 (y.1.told 3), .int .u64 (y.1.told 4), .int .u64 (y.1.told 5), .int .i64 y.1.dst, .int .u64 (y.1.into 0), .int .u64 (y.1.into 1), .int .u64 (y.1.into 2), .int .u64 (y.1.into 3), .int .u64 (y.1.into 4), .int .u64 (y.1.into 5), .int .u8 (y.1.free : Int)]
def wayC (L : List YV) : List Value := L.flatMap encY
theorem wayC_snoc (L : List YV) (y : YV) : wayC L ++ encY y = wayC (L ++ [y]) := by simp [wayC]
theorem wayC_len : ∀ L : List YV, (wayC L).length = L.length * 15
  | [] => rfl
  | y :: r => by
    have := wayC_len r
    simp only [wayC, List.flatMap_cons, List.length_append, List.length_cons] at this ⊢
    simp only [encY, List.length_cons, List.length_nil]
    omega
theorem wayC_at : ∀ (L : List YV) (k : Nat) (hk : k < L.length) (i : Nat), i < 15 → (wayC L)[k * 15 + i]? = (encY L[k])[i]?
  | y :: r, 0, _, i, hi => by
    show (encY y ++ wayC r)[0 * 15 + i]? = _
    rw [Nat.zero_mul, Nat.zero_add, List.getElem?_append_left (by simp [encY]; omega)]
    rfl
  | y :: r, k + 1, hk, i, hi => by
    show (encY y ++ wayC r)[(k + 1) * 15 + i]? = _
    rw [List.getElem?_append_right (by simp [encY]; omega)]
    have e : (k + 1) * 15 + i - (encY y).length = k * 15 + i := by simp [encY]; omega
    rw [e, wayC_at r k (by simpa using hk) i hi]
    rfl
/- The numbers of a way lie off some block. -/
def OffY (w : World) (g : Option Nat) (y : YV) : Prop := ∃ so sb sc, y.2 = .slice so y.1.src.length sc ∧ y.1.src.length ≤ 400 ∧ Ints w so sb 0 (y.1.src.map Int.ofNat) ∧ (0 < y.1.src.length → some sb ≠ g)
theorem OffY.later {w w' : World} {g : Option Nat} {y : YV} (h : OffY w g y) (hb : Below w.heap.size w w') : OffY w' g y := by
  obtain ⟨so, sb, sc, h1, h2, h3, h4⟩ := h
  exact ⟨so, sb, sc, h1, h2, h3.later hb, h4⟩
theorem ints_kept {w w' : World} {so : Option Addr} {sb soff : Nat} {l : List Int} {g : Option Nat} (h : Ints w so sb soff l) (hg : w.grownBy w' g) (hne : 0 < l.length → some sb ≠ g) : Ints w' so sb soff l :=
  ⟨h.adr, fun k hk => (hg.cell_far ⟨sb, soff + k, none⟩ (h.lt (by omega)) (hne (by omega))).trans (h.cell k hk), fun hn => Nat.lt_of_lt_of_le (h.lt hn) hg.size⟩
theorem OffY.step {wa w3 : World} {v v2 : Value} {y : YV} (h : OffY wa v.ownBlock y) (hgr : wa.grownBy w3 v.ownBlock) (hloc : v2.ownBlock = v.ownBlock ∨ v2.ownBlock = some wa.heap.size) : OffY w3 v2.ownBlock y := by
  obtain ⟨so, sb, sc, h1, h2, h3, h4⟩ := h
  refine ⟨so, sb, sc, h1, h2, ints_kept h3 hgr (fun hp => h4 (by simpa using hp)), fun hp => ?_⟩
  rcases hloc with e | e
  · rw [e]; exact h4 hp
  · rw [e]
    have := h3.lt (by simpa using hp)
    intro e2
    injection e2 with e2
    omega
/- What the loop holds. -/
structure WySt (ls : List ByteArray) (ps : List (ByteArray × ByteArray)) (N : Nat) (w wr : World) (v : Value) (L : List YV) (l : List RBd) (k : Nat) : Prop where
  bel : Below w.heap.size w wr
  own : wr.ownsRow w.heap.size 84 15 v L.length (wayC L)
  off : ∀ y ∈ L, OffY wr v.ownBlock y
  len : L.length = k
  isw : ∀ j (h : j < L.length) (h' : j < l.length), IsWay ls ps (toB l[j]) L[j].1
  rng : ∀ y ∈ L, (∀ i ∈ y.1.src, i < N) ∧ (y.1.dst = -1 ∨ ∃ d : Nat, y.1.dst = (d : Int) ∧ d < N)
  ok : ∀ y ∈ L, SetOK y.1.told ∧ SetOK y.1.into ∧ y.1.free < 64
theorem WySt.later {ls : List ByteArray} {ps : List (ByteArray × ByteArray)} {N : Nat} {w wr w' : World} {v : Value} {L : List YV} {l : List RBd} {k : Nat} (h : WySt ls ps N w wr v L l k) (hb : Below wr.heap.size wr w') : WySt ls ps N w w' v L l k :=
  ⟨h.bel.trans (hb.mono h.bel.size), own_below h.own hb, fun y hy => (h.off y hy).later hb, h.len, h.isw, h.rng, h.ok⟩
theorem WySt.step {ls : List ByteArray} {ps : List (ByteArray × ByteArray)} {N : Nat} {w w5 w6 : World} {ov : Option Addr} {ocap g6 cap6 : Nat} {L : List YV} {l : List RBd} {k : Nat} {y : YV} (h : WySt ls ps N w w5 (.slice ov L.length ocap) L l k) (hk : k < l.length)
    (hown6 : w6.ownsRow w.heap.size 84 15 (.slice (some ⟨g6, 0, none⟩) (L.length + 1) cap6) (L.length + 1) (wayC L ++ encY y)) (hgr6 : w5.grownBy w6 (Value.slice ov L.length ocap).ownBlock) (hloc6 : (Value.slice ov L.length ocap).ownBlock = some g6 ∨ g6 = w5.heap.size)
    (hy : OffY w5 (Value.slice ov L.length ocap).ownBlock y) (hw : IsWay ls ps (toB l[k]) y.1) (hr : (∀ i ∈ y.1.src, i < N) ∧ (y.1.dst = -1 ∨ ∃ d : Nat, y.1.dst = (d : Int) ∧ d < N)) (hok : SetOK y.1.told ∧ SetOK y.1.into ∧ y.1.free < 64) :
    WySt ls ps N w w6 (.slice (some ⟨g6, 0, none⟩) (L.length + 1) cap6) (L ++ [y]) l (k + 1) := by
  have hloc : (Value.slice (some ⟨g6, 0, none⟩) (L.length + 1) cap6).ownBlock = (Value.slice ov L.length ocap).ownBlock ∨ (Value.slice (some ⟨g6, 0, none⟩) (L.length + 1) cap6).ownBlock = some w5.heap.size := by
    rcases hloc6 with e | e
    · exact .inl e.symm
    · exact .inr (by rw [← e]; rfl)
  refine ⟨h.bel.grown hgr6 h.bel.size (fun j e => (h.own.lt _ e).1), by rw [← wayC_snoc, List.length_append]; exact hown6, fun z hz => ?_, by simp [h.len], fun j hj hj' => ?_, fun z hz => ?_, fun z hz => ?_⟩
  · rcases List.mem_append.1 hz with hz | hz
    · exact (h.off z hz).step hgr6 hloc
    · rw [List.mem_singleton.1 hz]; exact hy.step hgr6 hloc
  · by_cases e : j < L.length
    · rw [List.getElem_append_left e]; exact h.isw j e hj'
    · have e2 : j = k := by have := h.len; simp at hj; omega
      subst e2
      rw [List.getElem_append_right (by omega)]
      simpa using hw
  · rcases List.mem_append.1 hz with hz | hz
    · exact h.rng z hz
    · rw [List.mem_singleton.1 hz]; exact hr
  · rcases List.mem_append.1 hz with hz | hz
    · exact h.ok z hz
    · rw [List.mem_singleton.1 hz]; exact hok
theorem WySt.fin {ls : List ByteArray} {ps : List (ByteArray × ByteArray)} {N : Nat} {w wr : World} {v : Value} {L : List YV} {l : List RBd} (h : WySt ls ps N w wr v L l l.length) : ∃ wo wb wc, v = .slice wo (L.map (·.1)).length wc ∧ WysAt wr wo wb 0 (L.map (·.1)) ∧ Ways ls ps (l.map toB) (L.map (·.1)) ∧ InRange N (L.map (·.1)) := by
  have hways : Ways ls ps (l.map toB) (L.map (·.1)) := ⟨by simp [h.len], fun k hk hk' => by
    rw [List.length_map] at hk hk'
    rw [List.getElem_map, List.getElem_map]; exact h.isw k hk' hk⟩
  have hrng : InRange N (L.map (·.1)) := fun v hv => by
    obtain ⟨y, hy, rfl⟩ := List.mem_map.1 hv
    exact h.rng y hy
  rcases h.own.2 with ⟨hv, h0⟩ | ⟨g, cap, cur, hv, hg, hh, hc1, hc2, hsz, htk⟩
  · have hnil : L = [] := List.length_eq_zero_iff.1 h0
    subst hnil
    exact ⟨none, 0, 0, hv, ⟨fun h => by simp at h, fun k h => by simp at h⟩, hways, hrng⟩
  · refine ⟨some ⟨g, 0, none⟩, g, cap, by rw [List.length_map]; exact hv, ⟨fun _ => rfl, fun k hk => ?_⟩, hways, hrng⟩
    rw [List.length_map] at hk
    have hcell : ∀ i, i < 15 → wr.cell? ⟨g, k * 15 + i, none⟩ = (encY L[k])[i]? := fun i hi => by
      rw [cell_blk hh, ← wayC_at L k hk i hi, ← htk, List.getElem?_take, if_pos (by omega)]
      simp
    rw [List.getElem_map, Nat.zero_add]
    obtain ⟨so, sb, sc, e1, e2, e3, _⟩ := h.off L[k] (List.getElem_mem hk)
    obtain ⟨o1, o2, o3⟩ := h.ok L[k] (List.getElem_mem hk)
    refine ⟨⟨so, sb, 0, sc, by have := hcell 0 (by omega); rw [Nat.add_zero] at this; rw [this]; simp [encY, e1], e2, e3⟩, fun i hi => ?_, hcell 7 (by omega), fun i hi => ?_, hcell 14 (by omega), o1, o2, o3⟩
    · have := hcell (1 + i) (by omega)
      rw [Nat.add_assoc, this]
      match i, hi with
      | 0, _ => rfl
      | 1, _ => rfl
      | 2, _ => rfl
      | 3, _ => rfl
      | 4, _ => rfl
      | 5, _ => rfl
    · have := hcell (8 + i) (by omega)
      rw [Nat.add_assoc, this]
      match i, hi with
      | 0, _ => rfl
      | 1, _ => rfl
      | 2, _ => rfl
      | 3, _ => rfl
      | 4, _ => rfl
      | 5, _ => rfl
theorem Tryz.infoWay : (Tryz.prog.info? 84).map (fun i => (i.zero, i.size, i.bytes)) = some (some (.agg #[.slice none 0 0, .int .u64 0, .int .u64 0, .int .u64 0, .int .u64 0, .int .u64 0, .int .u64 0, .int .i64 0, .int .u64 0, .int .u64 0, .int .u64 0, .int .u64 0, .int .u64 0, .int .u64 0, .int .u8 0]), 15, 136) := by kernel_rfl

/- Whose policies are left out. -/
theorem und_is {ls : List ByteArray} {ps : List (ByteArray × ByteArray)} {bs : List ByteArray} (hr : Act.Right ls ps) (h6 : ls.length ≤ 6) (hb : ∀ s ∈ bs, s ∈ ls) {o : Nat} (ho : o < ls.length) : (undF (actG ls ps) (Sol.grp ls bs) 6).testBit o = true ↔ ∃ s ∈ bs, Act.Way ps s ls[o] := by
  have hA := actG_is hr
  rw [undF_bit]
  constructor
  · rintro ⟨_, h⟩
    have : ∃ j, ((actG ls ps o) &&& Sol.grp ls bs).testBit j = true := by
      apply Classical.byContradiction
      intro hno
      apply h
      apply Nat.eq_of_testBit_eq
      intro j
      rw [Nat.zero_testBit]
      cases hj : ((actG ls ps o) &&& Sol.grp ls bs).testBit j with
      | false => rfl
      | true => exact absurd ⟨j, hj⟩ hno
    obtain ⟨j, hj⟩ := this
    rw [Nat.testBit_and, Bool.and_eq_true] at hj
    obtain ⟨s, hs, e⟩ := (Sol.grp_bit ls j bs).1 hj.2
    have hjl : j < ls.length := by rw [← e]; exact Act.pos_lt (hb s hs)
    have := (hA o j ho hjl).1 hj.1
    refine ⟨s, hs, ?_⟩
    have e2 : ls[j] = s := by
      subst e
      exact Act.at_pos (hb s hs)
    rwa [e2] at this
  · rintro ⟨s, hs, hw⟩
    have hjl := Act.pos_lt (hb s hs)
    have e2 : ls[Act.pos ls s] = s := Act.at_pos (hb s hs)
    have h1 : (actG ls ps o).testBit (Act.pos ls s) = true := (hA o _ ho hjl).2 (by rw [e2]; exact hw)
    have h2 : (Sol.grp ls bs).testBit (Act.pos ls s) = true := (Sol.grp_bit ls _ bs).2 ⟨s, hs, rfl⟩
    refine ⟨by omega, fun e => ?_⟩
    have h3 : ((actG ls ps o) &&& Sol.grp ls bs).testBit (Act.pos ls s) = true := by rw [Nat.testBit_and, h1, h2]; rfl
    rw [e, Nat.zero_testBit] at h3
    cases h3

set_option maxRecDepth 100000 in
set_option maxHeartbeats 8000000 in
theorem waysC (q : Nat) (ao lo : Option Addr) (b off n c lb loff ln lc N : Nat) (ls : List ByteArray) (ps : List (ByteArray × ByteArray)) (l : List RBd) (w : World) (hc : CrtAt w q ao n c (actG ls ps)) (hck : checkF ls ps = 0) (hn : n = ls.length) (hs : Strs w ao b off ls) (hl : Bds w lo lb loff l) (hln : ln = l.length) (hm : ln ≤ 400) (hg : ∀ x ∈ l, GoodB ls N x) :
    Calls Tryz.prog 21 #[.pointer (some ⟨q, 0, none⟩), .slice lo ln lc] w fun e w' => ∃ (wo : Option Addr) (wb wc : Nat) (vs : List WayV), e = .returned (.slice wo vs.length wc) ∧ WysAt w' wo wb 0 vs ∧ Ways ls ps (l.map toB) vs ∧ InRange N vs ∧ Below w.heap.size w w' := by
  obtain ⟨h6, _, hright, _⟩ := right_of hck
  have HC : Hid (CrtAt w q ao n c (actG ls ps)) := hc
  have HN : Hid (n = ls.length ∧ n ≤ 6) := ⟨hn, by omega⟩
  have HRT : Hid (Act.Right ls ps) := hright
  have HS : Hid (Strs w ao b off ls) := hs
  have HL : Hid (Bds w lo lb loff l) := hl
  have HLN : Hid (ln = l.length) := hln
  have HG : Hid (∀ x ∈ l, GoodB ls N x) := hg
  have hmx : Tryz.prog.follows .mixedOrders = true := by kernel_rfl
  obtain ⟨i0, hi, hz0, hz1, hz2⟩ := info_parts Tryz.infoWay
  clear hc hck hn hs hl hln hg h6 hright
  go_enter Tryz.func21, Tryz.ntmps21
  go_wp2
  go_loopw [5, 11] (fun v i wr => ∃ (k : Nat) (L : List YV), k ≤ ln ∧ i = .int .i64 k ∧ Hid (WySt ls ps N w wr v L l k)) (fun _ i _ => ln - (intOf i).toNat)
  case atStart => exact ⟨0, [], Nat.zero_le _, rfl, ⟨Below.refl _ _, World.ownsRow_nil _ _ _ _, fun y hy => (by cases hy), rfl, fun j hj => absurd hj (by simp), fun y hy => (by cases hy), fun y hy => (by cases hy)⟩⟩
  case round =>
    obtain ⟨k, L, hk, rfl, HP⟩ := hrel
    by_cases hlt : k < ln
    · have hkl : k < l.length := by have := HLN.out; omega
      have hlo := HL.out.adr (by omega)
      have hbd := (HL.out.later HP.out.bel).at' k hkl
      have hgood := HG.out _ (List.getElem_mem hkl)
      obtain ⟨x, hx⟩ : ∃ x, x = l[k] := ⟨_, rfl⟩
      rw [← hx] at hbd hgood
      obtain ⟨v0, c0, so, sb, soff, sc, e0, _, hint⟩ := hbd.c0
      obtain ⟨v1, c1, lo1, lb1, loff1, ln1, lc1, e1, hlab⟩ := hbd.c1
      have c2 := hbd.c2
      obtain ⟨v3, c3, lo3, lb3, loff3, ln3, lc3, e3, hinto⟩ := hbd.c3
      have c4 := hbd.c4
      obtain ⟨v5, c5, lo5, lb5, loff5, lc5, e5, h51, h52, hby⟩ := hbd.c5
      have lbb := hbd.lt
      subst e0 e1 e3 e5
      obtain ⟨ov, ocap, hov⟩ := slice_of HP.out.own
      subst hov
      obtain ⟨wz, hwz⟩ : ∃ wz, wz = wr.alloc (.cells #[.slice so x.src.length sc, .slice lo1 ln1 lc1, .int .i64 x.dst, .slice lo3 ln3 lc3, .int .i64 x.pos, .slice lo5 x.by_.length lc5] 60) := ⟨_, rfl⟩
      have HWZ : Hid (wz = wr.alloc (.cells #[.slice so x.src.length sc, .slice lo1 ln1 lc1, .int .i64 x.dst, .slice lo3 ln3 lc3, .int .i64 x.pos, .slice lo5 x.by_.length lc5] 60)) := hwz
      have hbz : Below wr.heap.size wr wz := by rw [hwz]; exact (Below.refl _ _).alloc (Nat.le_refl _) _
      have kz : wz.heap[wr.heap.size]? = some (.cells #[.slice so x.src.length sc, .slice lo1 ln1 lc1, .int .i64 x.dst, .slice lo3 ln3 lc3, .int .i64 x.pos, .slice lo5 x.by_.length lc5] 60 (0, 0)) := by rw [hwz]; exact heap_at_alloc _ _ _ rfl
      have HBZ : Hid (Below wr.heap.size wr wz) := hbz
      have HKZ : Hid (wz.heap[wr.heap.size]? = some (.cells #[.slice so x.src.length sc, .slice lo1 ln1 lc1, .int .i64 x.dst, .slice lo3 ln3 lc3, .int .i64 x.pos, .slice lo5 x.by_.length lc5] 60 (0, 0))) := kz
      have HINT : Hid (Ints wz so sb soff x.src) := hint.later hbz
      have HLB : Hid (LabAt wz lo1 lb1 loff1 ln1 lc1 x.lab) := hlab.later hbz
      have HIN : Hid (LabAt wz lo3 lb3 loff3 ln3 lc3 x.into) := hinto.later hbz
      have HBY : Hid (Strs wz lo5 lb5 loff5 x.by_) := hby.later hbz
      have HGD : Hid (GoodB ls N x) := hgood
      have HX : Hid (x = l[k]) := hx
      have HP1 : Hid (WySt ls ps N w wz (.slice ov L.length ocap) L l k) := HP.out.later hbz
      have HCZ : Hid (CrtAt wz q ao n c (actG ls ps)) := HC.out.later HP1.out.bel
      have HSZ : Hid (Strs wz ao b off ls) := HS.out.later HP1.out.bel
      obtain ⟨nsrc, hnsrc⟩ : ∃ m, m = x.src.length := ⟨_, rfl⟩
      obtain ⟨nby, hnby⟩ : ∃ m, m = x.by_.length := ⟨_, rfl⟩
      obtain ⟨dst, hdst⟩ : ∃ m, m = x.dst := ⟨_, rfl⟩
      obtain ⟨xpos, hxpos⟩ : ∃ m, m = x.pos := ⟨_, rfl⟩
      have HNS : Hid (nsrc = x.src.length ∧ nby = x.by_.length ∧ dst = x.dst) := ⟨hnsrc, hnby, hdst⟩
      rw [← hnsrc] at c0 HWZ HKZ
      rw [← hnby] at c5 HWZ HKZ
      rw [← hdst] at c2 HWZ HKZ
      rw [← hxpos] at c4 HWZ HKZ
      have n400 : nsrc ≤ 400 := by have := HGD.out.few; omega
      have hkL : L.length = k := HP1.out.len
      have HVAL : Hid (∀ W : World, CallsIn Fence.wide 1 Tryz.prog 53 #[.slice so nsrc sc] W fun e w' => e = .returned (.func (.func 89) #[] #[.pointer (some ⟨W.heap.size, 0, none⟩)]) ∧ w' = W.alloc (.cells #[.slice so nsrc sc] 40)) := fun W => valuesIn 1 so nsrc sc W
      clear hbd hint hlab hinto hby hgood hx hbz kz hwz hnsrc hnby hdst hxpos h51 h52
      subst hlo
      go_wp2_with fail
      rw [← HWZ.out]
      clear HWZ
      refine (callsIn_wide.1 (HVAL.out wz)).mono ?_
      rintro e w1 ⟨rfl, hw1⟩
      have hb1 : Below wz.heap.size wz w1 := by rw [hw1]; exact (Below.refl _ _).alloc (Nat.le_refl _) _
      have hbx : w1.cell? ⟨wz.heap.size, 0, none⟩ = some (.slice so x.src.length sc) := by
        rw [← HNS.out.1]
        have : w1.heap[wz.heap.size]? = some (.cells #[.slice so nsrc sc] 40 (0, 0)) := by rw [hw1]; exact heap_at_alloc _ _ _ rfl
        exact cell_blk this
      have hsrt := sortedC wz.heap.size so sb soff sc x.src (by have := HGD.out.few; omega) w1 hbx (HINT.out.later hb1)
      have HB1 : Hid (Below wz.heap.size wz w1) := hb1
      clear hw1 hb1 hbx HVAL HINT c0 c1 c2 c3 c4 c5
      go_wp2_with fail
      refine hsrt.mono ?_
      rintro e w2 ⟨v2, ys, rfl, hperm, hown2, hb2⟩
      have hyl : ys.length ≤ 1000 := by have := HGD.out.few; rw [hperm.length_eq]; omega
      have hcmp := compactI v2 ys w1.heap.size w2 hyl hown2
      have HLO2 : Hid (∀ j, v2.ownBlock = some j → w1.heap.size ≤ j) := fun j e => (hown2.lt _ e).1
      have HB2 : Hid (Below w1.heap.size w1 w2) := hb2
      have HPM : Hid (ys.Perm x.src) := hperm
      obtain ⟨ov2, ocap2, hov2⟩ := slice_of hown2
      subst hov2
      clear hown2 hb2 hperm hsrt hyl
      go_wp2_with fail
      refine hcmp.mono ?_
      rintro e w3 ⟨so3, sb3, sc3, rfl, hi3, hlo3, hg3⟩
      have hb3 : Below wz.heap.size wz w3 := HB1.out.trans ((HB2.out.grown hg3 HB2.out.size (fun j e => HLO2.out j e)).mono HB1.out.size)
      have HP3 : Hid (WySt ls ps N w w3 (.slice ov L.length ocap) L l k) := HP1.out.later hb3
      have HKZ3 : Hid (w3.heap[wr.heap.size]? = some (.cells #[.slice so nsrc sc, .slice lo1 ln1 lc1, .int .i64 dst, .slice lo3 ln3 lc3, .int .i64 xpos, .slice lo5 nby lc5] 60 (0, 0))) := (hb3.block _ (lt_of_block HKZ.out)).trans HKZ.out
      have HBW : Hid (Below wz.heap.size wz w3) := hb3
      -- the numbers, each once
      have hmem : ∀ i : Int, i ∈ Lib.compact ys ↔ i ∈ x.src := fun i => by rw [compact_memI]; exact HPM.out.mem_iff
      obtain ⟨src', hsrc'⟩ : ∃ src' : List Nat, src' = (Lib.compact ys).map Int.toNat := ⟨_, rfl⟩
      have hcs : src'.map Int.ofNat = Lib.compact ys := by
        rw [hsrc', List.map_map]
        have : ∀ i ∈ Lib.compact ys, (Int.ofNat ∘ Int.toNat) i = i := fun i hi => by
          have := (HGD.out.src i ((hmem i).1 hi)).1
          show ((i.toNat : Nat) : Int) = i
          omega
        conv => rhs; rw [← List.map_id (Lib.compact ys)]
        exact List.map_congr_left fun i hi => this i hi
      have hlen' : (Lib.compact ys).length = src'.length := by rw [hsrc', List.length_map]
      have HSM : Hid ((∀ i : Nat, i ∈ src' ↔ i ∈ (toB x).src) ∧ src'.length ≤ 400 ∧ ∀ i ∈ src', i < N) := by
        have hmm : ∀ i : Nat, i ∈ src' ↔ i ∈ (toB x).src := fun i => by
          rw [hsrc']
          show i ∈ (Lib.compact ys).map Int.toNat ↔ i ∈ x.src.map Int.toNat
          rw [List.mem_map, List.mem_map]
          exact ⟨fun ⟨a, ha, e⟩ => ⟨a, (hmem a).1 ha, e⟩, fun ⟨a, ha, e⟩ => ⟨a, (hmem a).2 ha, e⟩⟩
        refine ⟨hmm, ?_, fun i hi => ?_⟩
        · have h1 := compact_lenI ys
          have h2 := HPM.out.length_eq
          have h3 := HGD.out.few
          omega
        · obtain ⟨a, ha, rfl⟩ := List.mem_map.1 ((hmm i).1 hi)
          have := HGD.out.src a ha
          omega
      have HI3 : Hid (Ints w3 so3 sb3 0 (src'.map Int.ofNat) ∧ (0 < src'.length → wz.heap.size ≤ sb3)) := ⟨by rw [hcs]; exact hi3, fun h => by have h1 := hlo3 (by omega); have := HB1.out.size; omega⟩
      rw [hlen']
      clear hi3 hlo3 hg3 hb3 hmem hsrc' hcs hlen' hcmp HPM HKZ HP1
      obtain ⟨n3, hn3⟩ : ∃ m, m = src'.length := ⟨_, rfl⟩
      have HN3 : Hid (n3 = src'.length) := hn3
      rw [← hn3]
      clear hn3
      have d1 : w3.cell? ⟨wr.heap.size, 1, none⟩ = some (.slice lo1 ln1 lc1) := cell_blk HKZ3.out
      have d2 : w3.cell? ⟨wr.heap.size, 2, none⟩ = some (.int .i64 dst) := cell_blk HKZ3.out
      have d3 : w3.cell? ⟨wr.heap.size, 3, none⟩ = some (.slice lo3 ln3 lc3) := cell_blk HKZ3.out
      have d5 : w3.cell? ⟨wr.heap.size, 5, none⟩ = some (.slice lo5 nby lc5) := cell_blk HKZ3.out
      go_wp2
      refine wp_region_held_drew (S := (fun W' => W'.cell? ⟨wr.heap.size, 1, none⟩ = some (.slice lo1 ln1 lc1) ∧ W'.cell? ⟨wr.heap.size, 2, none⟩ = some (.int .i64 dst) ∧ W'.cell? ⟨wr.heap.size, 3, none⟩ = some (.slice lo3 ln3 lc3) ∧ W'.cell? ⟨wr.heap.size, 5, none⟩ = some (.slice lo5 nby lc5))) hmx ⟨d1, d2, d3, d5⟩ ?_
      intro hHeld
      refine wpAnyH_take (i := 0) (v := .slice ov L.length ocap) rfl (by kernel_rfl) (by kernel_rfl) (by kernel_rfl) (fun _ _ _ h => h) (Or.inl ⟨by rfl, fun W' hSw => by dsimp only at hSw; go_simp⟩) hHeld ?_
      simp only [Act.put]
      refine wpAnyH_take (i := 1) (v := .slice so3 n3 sc3) rfl (by kernel_rfl) (by kernel_rfl) (by kernel_rfl) (fun _ _ _ h => h) (Or.inl ⟨by rfl, fun W' hSw => by dsimp only at hSw; go_simp⟩) hHeld ?_
      simp only [Act.put]
      refine wpAnyH_take (i := 2) (v := .pointer (some ⟨q, 0, none⟩)) rfl (by kernel_rfl) (by kernel_rfl) (by kernel_rfl) (fun _ _ _ h => h) (Or.inl ⟨by rfl, fun W' hSw => by dsimp only at hSw; go_simp⟩) hHeld ?_
      simp only [Act.put]
      refine wpAnyH_take (i := 3) (v := .pointer (some ⟨wr.heap.size, 1, none⟩)) rfl (by kernel_rfl) (by kernel_rfl) (by kernel_rfl) (fun _ _ _ h => h) (Or.inl ⟨by rfl, fun W' hSw => by dsimp only at hSw; go_simp⟩) hHeld ?_
      simp only [Act.put]
      refine wpAnyH_take (i := 4) (v := .slice lo1 ln1 lc1) rfl (by kernel_rfl) (by kernel_rfl) (by kernel_rfl) (fun _ _ _ h => h) (Or.inl ⟨by rfl, fun W' hSw => by dsimp only at hSw; go_simp⟩) hHeld ?_
      simp only [Act.put]
      refine wpAnyH_take (i := 6) (v := .pointer (some ⟨wr.heap.size, 2, none⟩)) rfl (by kernel_rfl) (by kernel_rfl) (by kernel_rfl) (fun _ _ _ h => h) (Or.inl ⟨by rfl, fun W' hSw => by dsimp only at hSw; go_simp⟩) hHeld ?_
      simp only [Act.put]
      refine wpAnyH_take (i := 7) (v := .int .i64 dst) rfl (by kernel_rfl) (by kernel_rfl) (by kernel_rfl) (fun _ _ _ h => h) (Or.inl ⟨by rfl, fun W' hSw => by dsimp only at hSw; go_simp⟩) hHeld ?_
      simp only [Act.put]
      refine wpAnyH_take (i := 8) (v := .pointer (some ⟨q, 0, none⟩)) rfl (by kernel_rfl) (by kernel_rfl) (by kernel_rfl) (fun _ _ _ h => h) (Or.inl ⟨by rfl, fun W' hSw => by dsimp only at hSw; go_simp⟩) hHeld ?_
      simp only [Act.put]
      refine wpAnyH_take (i := 9) (v := .pointer (some ⟨wr.heap.size, 3, none⟩)) rfl (by kernel_rfl) (by kernel_rfl) (by kernel_rfl) (fun _ _ _ h => h) (Or.inl ⟨by rfl, fun W' hSw => by dsimp only at hSw; go_simp⟩) hHeld ?_
      simp only [Act.put]
      refine wpAnyH_take (i := 10) (v := .slice lo3 ln3 lc3) rfl (by kernel_rfl) (by kernel_rfl) (by kernel_rfl) (fun _ _ _ h => h) (Or.inl ⟨by rfl, fun W' hSw => by dsimp only at hSw; go_simp⟩) hHeld ?_
      simp only [Act.put]
      refine wpAnyH_take (i := 12) (v := .pointer (some ⟨q, 0, none⟩)) rfl (by kernel_rfl) (by kernel_rfl) (by kernel_rfl) (fun _ _ _ h => h) (Or.inl ⟨by rfl, fun W' hSw => by dsimp only at hSw; go_simp⟩) hHeld ?_
      simp only [Act.put]
      refine wpAnyH_take (i := 13) (v := .pointer (some ⟨q, 0, none⟩)) rfl (by kernel_rfl) (by kernel_rfl) (by kernel_rfl) (fun _ _ _ h => h) (Or.inl ⟨by rfl, fun W' hSw => by dsimp only at hSw; go_simp⟩) hHeld ?_
      simp only [Act.put]
      refine wpAnyH_take (i := 14) (v := .pointer (some ⟨wr.heap.size, 5, none⟩)) rfl (by kernel_rfl) (by kernel_rfl) (by kernel_rfl) (fun _ _ _ h => h) (Or.inl ⟨by rfl, fun W' hSw => by dsimp only at hSw; go_simp⟩) hHeld ?_
      simp only [Act.put]
      refine wpAnyH_take (i := 15) (v := .slice lo5 nby lc5) rfl (by kernel_rfl) (by kernel_rfl) (by kernel_rfl) (fun _ _ _ h => h) (Or.inl ⟨by rfl, fun W' hSw => by dsimp only at hSw; go_simp⟩) hHeld ?_
      simp only [Act.put]
      refine wpAnyH_ready (rs := [5]) (by kernel_rfl) (by simp) ?_
      refine AllReadyH.cons rfl (fun K hK => ?_) AllReadyH.nil
      go_simp
      have HBD : Hid (Below wz.heap.size wz w3.drew) := ⟨HBW.out.os, HBW.out.tape, HBW.out.output, HBW.out.size, HBW.out.block⟩
      have hset1 := setCt q ao lo1 b off n c lb1 loff1 ln1 lc1 (actG ls ps) ls x.lab w3.drew (HCZ.out.later HBD.out) HN.out.1 HN.out.2 (HSZ.out.later HBD.out) (HLB.out.later HBD.out) HGD.out.lab
      have HT : Hid (Sol.IsSet ls x.lab (setF ls x.lab) ∧ SetOK (setF ls x.lab)) := ⟨setF_is ls x.lab, setF_ok (by have := HN.out; omega) HGD.out.lab⟩
      obtain ⟨T, hT⟩ : ∃ T, T = setF ls x.lab := ⟨_, rfl⟩
      rw [← hT] at hset1 HT
      clear hT
      refine hset1.mono ?_
      rintro e w4 ⟨rfl, hb4⟩
      have HB4 : Hid (Below w3.heap.size w3 w4) := ⟨hb4.os, hb4.tape, hb4.output, hb4.size, hb4.block⟩
      have HZ4 : Hid (Below wz.heap.size wz w4) := HBW.out.trans (HB4.out.mono HBW.out.size)
      have p1 := cell_below HB4.out d1
      have p2 := cell_below HB4.out d2
      have p3 := cell_below HB4.out d3
      have p5 := cell_below HB4.out d5
      clear hset1 hb4 hHeld d1 d2 d3 d5 HLB
      refine hK.out _ _ ⟨p1, p2, p3, p5⟩ ?_
      clear hK K
      intro hHeld
      refine wpAnyH_ready (rs := [11]) (by kernel_rfl) (by simp) ?_
      refine AllReadyH.cons rfl (fun K hK => ?_) AllReadyH.nil
      go_simp
      have hset2 := setCt q ao lo3 b off n c lb3 loff3 ln3 lc3 (actG ls ps) ls x.into w4 (HCZ.out.later HZ4.out) HN.out.1 HN.out.2 (HSZ.out.later HZ4.out) (HIN.out.later HZ4.out) HGD.out.into
      have HI : Hid (Sol.IsSet ls x.into (setF ls x.into) ∧ SetOK (setF ls x.into)) := ⟨setF_is ls x.into, setF_ok (by have := HN.out; omega) HGD.out.into⟩
      obtain ⟨I, hI⟩ : ∃ I, I = setF ls x.into := ⟨_, rfl⟩
      rw [← hI] at hset2 HI
      clear hI
      refine hset2.mono ?_
      rintro e w5 ⟨rfl, hb5⟩
      have HB5 : Hid (Below w4.heap.size w4 w5) := hb5
      have HZ5 : Hid (Below wz.heap.size wz w5) := HZ4.out.trans (HB5.out.mono HZ4.out.size)
      have q1 := cell_below HB5.out p1
      have q2 := cell_below HB5.out p2
      have q3 := cell_below HB5.out p3
      have q5 := cell_below HB5.out p5
      clear hset2 hb5 hHeld p1 p2 p3 p5 HIN
      refine hK.out _ _ ⟨q1, q2, q3, q5⟩ ?_
      clear hK K
      intro hHeld
      refine wpAnyH_ready (rs := [16]) (by kernel_rfl) (by simp) ?_
      refine AllReadyH.cons rfl (fun K hK => ?_) AllReadyH.nil
      go_simp
      have hgrp := groupC q ao lo5 b off lb5 loff5 n c nby lc5 (actG ls ps) ls x.by_ w5 (HCZ.out.later HZ5.out) HN.out.1 HN.out.2 (HSZ.out.later HZ5.out) HNS.out.2.1 (by have := HGD.out.by6; have := HNS.out.2.1; unfold maxLen; omega) (HBY.out.later HZ5.out) HGD.out.by_
      have hg64 : Sol.grp ls x.by_ < 64 := grp_small (by have := HN.out; omega) HGD.out.by_
      have hund := underC q ao n c (actG ls ps) (Sol.grp ls x.by_) w5 (HCZ.out.later HZ5.out) hg64
      have HFR : Hid ((∀ o (h : o < ls.length), (undF (actG ls ps) (Sol.grp ls x.by_) 6).testBit o = true ↔ ∃ s ∈ (toB x).by_, Act.Way ps s ls[o]) ∧ undF (actG ls ps) (Sol.grp ls x.by_) 6 < 64) := ⟨fun o ho => und_is HRT.out (by have := HN.out; omega) HGD.out.by_ ho, undF_lt _ _ 6⟩
      obtain ⟨G, hG⟩ : ∃ G, G = Sol.grp ls x.by_ := ⟨_, rfl⟩
      rw [← hG] at hgrp hund HFR
      obtain ⟨F, hF⟩ : ∃ F, F = undF (actG ls ps) G 6 := ⟨_, rfl⟩
      rw [← hF] at hund HFR
      clear hG hF hg64
      refine hgrp.mono ?_
      rintro e w6 ⟨rfl, hw6⟩
      have hw6' := hw6.symm
      subst hw6'
      clear hgrp hHeld
      refine hK.out _ _ ⟨q1, q2, q3, q5⟩ ?_
      clear hK K
      intro hHeld
      refine wpAnyH_ready (rs := [17]) (by kernel_rfl) (by simp) ?_
      refine AllReadyH.cons rfl (fun K hK => ?_) AllReadyH.nil
      go_simp
      refine hund.mono ?_
      rintro e w7 ⟨rfl, hw7⟩
      have hw7' := hw7.symm
      subst hw7'
      clear hund hHeld
      refine hK.out _ _ ⟨q1, q2, q3, q5⟩ ?_
      clear hK K
      intro hHeld
      have HAT : Hid (setA T = #[.int .u64 (T 0), .int .u64 (T 1), .int .u64 (T 2), .int .u64 (T 3), .int .u64 (T 4), .int .u64 (T 5)]) := rfl
      have HAI : Hid (setA I = #[.int .u64 (I 0), .int .u64 (I 1), .int .u64 (I 2), .int .u64 (I 3), .int .u64 (I 4), .int .u64 (I 5)]) := rfl
      rw [HAT.out, HAI.out]
      refine wpAnyH_take (i := 18) (v := .agg #[.slice so3 n3 sc3, .int .u64 (T 0), .int .u64 (T 1), .int .u64 (T 2), .int .u64 (T 3), .int .u64 (T 4), .int .u64 (T 5), .int .i64 dst, .int .u64 (I 0), .int .u64 (I 1), .int .u64 (I 2), .int .u64 (I 3), .int .u64 (I 4), .int .u64 (I 5), .int .u8 (F : Int)]) rfl (by kernel_rfl) (by kernel_rfl) (by kernel_rfl) (fun _ _ _ h => h) (Or.inl ⟨by rfl, fun W' hSw => by dsimp only at hSw; go_simp⟩) hHeld ?_
      simp only [Act.put]
      refine wpAnyH_ready (rs := [19]) (by kernel_rfl) (by simp) ?_
      refine AllReadyH.cons rfl (fun K hK => ?_) AllReadyH.nil
      go_simp
      obtain ⟨w8, hw8⟩ : ∃ w8, w8 = w5.alloc (.cells #[.slice so3 n3 sc3, .int .u64 (T 0), .int .u64 (T 1), .int .u64 (T 2), .int .u64 (T 3), .int .u64 (T 4), .int .u64 (T 5), .int .i64 dst, .int .u64 (I 0), .int .u64 (I 1), .int .u64 (I 2), .int .u64 (I 3), .int .u64 (I 4), .int .u64 (I 5), .int .u8 (F : Int)] 84) := ⟨_, rfl⟩
      rw [← hw8]
      have H58 : Hid (Below w5.heap.size w5 w8) := by show Below _ _ _; rw [hw8]; exact (Below.refl _ _).alloc (Nat.le_refl _) _
      have HNEW : Hid (∀ j u, ([.slice so3 n3 sc3, .int .u64 (T 0), .int .u64 (T 1), .int .u64 (T 2), .int .u64 (T 3), .int .u64 (T 4), .int .u64 (T 5), .int .i64 dst, .int .u64 (I 0), .int .u64 (I 1), .int .u64 (I 2), .int .u64 (I 3), .int .u64 (I 4), .int .u64 (I 5), .int .u8 (F : Int)] : List Value)[j]? = some u → w8.cell? ((⟨w5.heap.size, 0, none⟩ : Addr).add j) = some u) := by
        have hb : w8.heap[w5.heap.size]? = some (.cells #[.slice so3 n3 sc3, .int .u64 (T 0), .int .u64 (T 1), .int .u64 (T 2), .int .u64 (T 3), .int .u64 (T 4), .int .u64 (T 5), .int .i64 dst, .int .u64 (I 0), .int .u64 (I 1), .int .u64 (I 2), .int .u64 (I 3), .int .u64 (I 4), .int .u64 (I 5), .int .u8 (F : Int)] 84 (0, 0)) := by rw [hw8]; exact heap_at_alloc _ _ _ rfl
        exact World.news_of_block hb
      have HP8 : Hid (WySt ls ps N w w8 (.slice ov L.length ocap) L l k) := ((HP3.out.later HB4.out).later HB5.out).later H58.out
      have r1 := cell_below H58.out q1
      have r2 := cell_below H58.out q2
      have r3 := cell_below H58.out q3
      have r5 := cell_below H58.out q5
      have HI8 : Hid (Ints w8 so3 sb3 0 (src'.map Int.ofNat)) := ((HI3.out.1.later HB4.out).later HB5.out).later H58.out
      have HLTO : Hid (∀ j, (Value.slice ov L.length ocap).ownBlock = some j → j < wz.heap.size) := fun j e => by
        have h1 := (HP.out.own.lt _ e).2
        have := HBZ.out.size
        omega
      clear hw8 hHeld q1 q2 q3 q5
      refine hK.out _ _ ⟨r1, r2, r3, r5⟩ ?_
      clear hK K
      intro hHeld
      refine wpAnyH_ready (rs := [20]) (by kernel_rfl) (by simp) ?_
      refine AllReadyH.cons rfl (fun K hK => ?_) AllReadyH.nil
      rw [← hkL]
      refine step_append_lies w8 rfl (.tmp 20) (.tmp 39) 50 rfl w.heap.size 84 i0 (.agg #[.slice none 0 0, .int .u64 0, .int .u64 0, .int .u64 0, .int .u64 0, .int .u64 0, .int .u64 0, .int .i64 0, .int .u64 0, .int .u64 0, .int .u64 0, .int .u64 0, .int .u64 0, .int .u64 0, .int .u8 0]) 15 136 Tryz.underlying50 hi hz0 hz1 hz2 rfl (by decide) (.slice ov L.length ocap) L.length (wayC L) rfl HP8.out.own ⟨w5.heap.size, 0, none⟩ 1 1 [.slice so3 n3 sc3, .int .u64 (T 0), .int .u64 (T 1), .int .u64 (T 2), .int .u64 (T 3), .int .u64 (T 4), .int .u64 (T 5), .int .i64 dst, .int .u64 (I 0), .int .u64 (I 1), .int .u64 (I 2), .int .u64 (I 3), .int .u64 (I 4), .int .u64 (I 5), .int .u8 (F : Int)] rfl rfl HNEW.out ?h1 (by omega) ?h63 ?hby ?hbase w8.heap.size rfl ?_
      case h1 =>
        intro u hu
        simp only [List.mem_cons, List.not_mem_nil, or_false] at hu
        rcases hu with rfl | rfl | rfl | rfl | rfl | rfl | rfl | rfl | rfl | rfl | rfl | rfl | rfl | rfl | rfl <;> rfl
      case h63 => unfold maxLen; omega
      case hby => omega
      case hbase => exact HP8.out.bel.size
      rintro g9 cap9 w9 hown9 hgr9 hloc9 hlt9
      have HP9 : Hid (WySt ls ps N w w9 (.slice (some ⟨g9, 0, none⟩) (L.length + 1) cap9) (L ++ [(⟨src', T, dst, I, F⟩, .slice so3 n3 sc3)]) l (k + 1)) := by
        refine HP8.out.step hkl hown9 hgr9 hloc9 ⟨so3, sb3, sc3, by rw [HN3.out], HSM.out.2.1, HI8.out, fun hp e => ?_⟩ ⟨?_, ?_, ?_, ?_, ?_, ?_, ?_⟩ ⟨HSM.out.2.2, ?_⟩ ⟨HT.out.2, HI.out.2, HFR.out.2⟩
        · have h1 := HLTO.out sb3 e.symm
          have h2 := HI3.out.2 hp
          omega
        · rw [← HX.out]; exact HSM.out.1
        · rw [← HX.out]; exact HT.out.1
        · rw [← HX.out]; exact HNS.out.2.2
        · rw [← HX.out]; exact HI.out.1
        · rw [← HX.out]; exact HFR.out.1
        · rw [← HX.out]; exact HGD.out.lab
        · rw [← HX.out]; exact HGD.out.into
        · show dst = -1 ∨ _
          rw [HNS.out.2.2]; exact HGD.out.dst
      have hne : some wr.heap.size ≠ (Value.slice ov L.length ocap).ownBlock := fun e => by have := (HP.out.own.lt _ e.symm).2; omega
      have FC : ∀ {p : Addr} {u : Value}, w8.cell? p = some u → some p.block ≠ (Value.slice ov L.length ocap).ownBlock → w9.cell? p = some u := fun {p u} hp hn => (hgr9.cell_far p (World.block_lt_of_cell? w8 p hp) hn).trans hp
      have s1 := FC r1 hne
      have s2 := FC r2 hne
      have s3 := FC r3 hne
      have s5 := FC r5 hne
      clear hown9 hgr9 hloc9 FC hHeld r1 r2 r3 r5
      refine hK.out _ _ ⟨s1, s2, s3, s5⟩ ?_
      clear hK K
      intro hHeld
      simp only [Act.put]
      refine wpAnyH_take (i := 21) (v := .slice (some ⟨g9, 0, none⟩) (L.length + 1) cap9) rfl (by kernel_rfl) (by kernel_rfl) (by kernel_rfl) (fun _ _ _ h => h) (Or.inl ⟨by rfl, fun W' hSw => by dsimp only at hSw; go_simp⟩) hHeld ?_
      simp only [Act.put]
      refine wpAnyH_done (by kernel_rfl) ?_ _
      go_wp2_with fail
      go_roundw
      case rel =>
        have HP10 := HP9.out
        rw [hkL] at HP10
        exact ⟨k + 1, _, by omega, by go_num, HP10⟩
      case measure => simp [intOf]; omega
    · have hkn : k = ln := by omega
      subst hkn
      have HFN : Hid (WySt ls ps N w wr u5 L l l.length) := by have := HP.out; rw [← HLN.out]; exact this
      obtain ⟨wo, wb, wc, e1, e2, e3, e4⟩ := HFN.out.fin
      subst e1
      have HE : Hid (WysAt wr wo wb 0 (L.map (·.1)) ∧ Ways ls ps (l.map toB) (L.map (·.1)) ∧ InRange N (L.map (·.1)) ∧ Below w.heap.size w wr) := ⟨e2, e3, e4, HFN.out.bel⟩
      clear e2 e3 e4
      go_wp2
      go_ret
      refine ⟨wo, wb, wc, L.map (·.1), ?_, HE.out⟩
      rw [List.length_map]
      rfl
end Go.Proofs.YtpbknhhjfhpkmaaGreatDoor

namespace Go.Proofs.YtpbknhhjfhpkmaaGreatDoor
open Go.RowKit

/- Labels that lie in a row. -/
structure LbsAt (w : World) (ao : Option Addr) (b off : Nat) (ys : List (List Pol)) : Prop where
  adr : 0 < ys.length → ao = some ⟨b, off, none⟩
  at' : ∀ k (h : k < ys.length), ∃ v, w.cell? ⟨b, off + k, none⟩ = some v ∧ LabVal w v ys[k]
theorem LbsAt.later {w w' : World} {ao : Option Addr} {b off : Nat} {ys : List (List Pol)} (h : LbsAt w ao b off ys) (hb : Below w.heap.size w w') : LbsAt w' ao b off ys :=
  ⟨h.adr, fun k hk => by
    obtain ⟨v, h1, h2⟩ := h.at' k hk
    exact ⟨v, cell_below hb h1, h2.later hb⟩⟩
/- A label with its value; it lies off some block. -/
abbrev LV := List Pol × Value
structure OffLb (w : World) (g : Option Nat) (y : LV) : Prop where
  ex : ∃ (M : List PV) (ao : Option Addr) (b cap : Nat), M.map (·.1) = y.1 ∧ y.2 = .slice ao y.1.length cap ∧ y.1.length ≤ cap ∧ cap ≤ maxLen ∧ (0 < y.1.length → ao = some ⟨b, 0, none⟩ ∧ some b ≠ g ∧ b < w.heap.size) ∧ RowP w b M ∧ ∀ z ∈ M, Off w g z
theorem OffLb.later {w w' : World} {g : Option Nat} {y : LV} (h : OffLb w g y) (hb : Below w.heap.size w w') : OffLb w' g y := by
  obtain ⟨M, ao, b, cap, h1, h2, h3, h4, h5, h6, h7⟩ := h.ex
  refine ⟨M, ao, b, cap, h1, h2, h3, h4, fun hp => ⟨(h5 hp).1, (h5 hp).2.1, Nat.lt_of_lt_of_le (h5 hp).2.2 hb.size⟩, ⟨fun k hk => cell_below hb (h6.c0 k hk), fun k hk => cell_below hb (h6.c1 k hk)⟩, fun z hz => (h7 z hz).later hb⟩
theorem OffLb.step {wa w3 : World} {v v2 : Value} {y : LV} (h : OffLb wa v.ownBlock y) (hgr : wa.grownBy w3 v.ownBlock) (hloc : v2.ownBlock = v.ownBlock ∨ v2.ownBlock = some wa.heap.size) : OffLb w3 v2.ownBlock y := by
  obtain ⟨M, ao, b, cap, h1, h2, h3, h4, h5, h6, h7⟩ := h.ex
  have hML : M.length = y.1.length := by rw [← h1, List.length_map]
  refine ⟨M, ao, b, cap, h1, h2, h3, h4, fun hp => ⟨(h5 hp).1, ?_, Nat.lt_of_lt_of_le (h5 hp).2.2 hgr.size⟩, ⟨fun k hk => ?_, fun k hk => ?_⟩, fun z hz => off_step (h7 z hz) hgr hloc⟩
  · rcases hloc with e | e
    · rw [e]; exact (h5 hp).2.1
    · rw [e]
      have := (h5 hp).2.2
      intro e2
      injection e2 with e2
      omega
  · have h8 := h5 (by omega)
    exact (hgr.cell_far ⟨b, k * 2, none⟩ h8.2.2 h8.2.1).trans (h6.c0 k hk)
  · have h8 := h5 (by omega)
    exact (hgr.cell_far ⟨b, k * 2 + 1, none⟩ h8.2.2 h8.2.1).trans (h6.c1 k hk)
theorem OffLb.of_new {w : World} {base : Nat} {g : Option Nat} {v : Value} {y : List Pol} (h : LabNw w base v y) (hg : ∀ k, g = some k → k < base) : OffLb w g (y, v) := by
  obtain ⟨M, rfl, ho, hr⟩ := h
  have hoff : ∀ z ∈ M, Off w g z := fun z hz => by
    obtain ⟨⟨ro, rb, roff, rc, k1, k2, k3, k4⟩, k5⟩ := hr z hz
    refine ⟨ro, rb, roff, rc, k1, k2, k3, k4, fun hp e => ?_⟩
    have hro := k4.adr hp
    have h1 := k5 hp rb (by rw [k1, hro]; rfl)
    have h2 := hg rb e.symm
    omega
  rcases ho.2 with ⟨hv, h0⟩ | ⟨b, cap, cur, hv, hb, hh, hc1, hc2, hsz, htk⟩
  · have hnil : M = [] := by
      have : M.length = 0 := by rw [← List.length_map (f := (·.1))]; exact h0
      exact List.length_eq_zero_iff.1 this
    subst hnil
    exact ⟨[], none, 0, 0, rfl, hv, by simp, by simp [maxLen], fun hp => by simp at hp, ⟨fun k hk => by simp at hk, fun k hk => by simp at hk⟩, fun z hz => by cases hz⟩
  · refine ⟨M, some ⟨b, 0, none⟩, b, cap, rfl, hv, hc1, hc2, fun _ => ⟨rfl, fun e => ?_, lt_of_block hh⟩, rowP_of hh (by rw [List.length_map] at htk; exact htk), hoff⟩
    have := hg b e.symm
    omega
theorem OffLb.val {w : World} {g : Option Nat} {y : LV} (h : OffLb w g y) (hs : ∀ p ∈ y.1, SmallP p) : LabVal w y.2 y.1 := by
  obtain ⟨M, ao, b, cap, h1, h2, h3, h4, h5, h6, h7⟩ := h.ex
  have hML : M.length = y.1.length := by rw [← h1, List.length_map]
  refine ⟨ao, b, 0, y.1.length, cap, h2, rfl, Nat.le_trans h3 h4, h3, ⟨fun hp => (h5 hp).1, fun k hk => ?_, fun k hk => ?_, fun hp => (h5 hp).2.2⟩, fun p hp => ?_⟩
  · have hkM : k < M.length := by omega
    have e : y.1[k] = M[k].1 := by simp [← h1]
    rw [e, Nat.zero_add]
    exact h6.c0 k hkM
  · have hkM : k < M.length := by omega
    have e : y.1[k] = M[k].1 := by simp [← h1]
    refine ⟨M[k].2, by rw [Nat.zero_add]; exact h6.c1 k hkM, ?_⟩
    rw [e]
    exact (h7 _ (List.getElem_mem hkM)).at'
  · have h8 := hs p hp
    exact ⟨Nat.le_trans h8.own (by unfold maxLen; omega), fun r hr => Nat.le_trans (h8.rd r hr) (by unfold maxLen; omega)⟩
/- What a loop holds that gathers labels. -/
structure LsSt2 (w wr : World) (v : Value) (L : List LV) : Prop where
  bel : Below w.heap.size w wr
  own : wr.ownsRow w.heap.size 34 1 v L.length (L.map (·.2))
  off : ∀ y ∈ L, OffLb wr v.ownBlock y
theorem LsSt2.later {w wr w' : World} {v : Value} {L : List LV} (h : LsSt2 w wr v L) (hb : Below wr.heap.size wr w') : LsSt2 w w' v L := ⟨h.bel.trans (hb.mono h.bel.size), own_below h.own hb, fun y hy => (h.off y hy).later hb⟩
theorem LsSt2.step {w wa w3 : World} {v v2 : Value} {L : List LV} {y : LV} (h : LsSt2 w wa v L) (hy : OffLb wa v.ownBlock y) (hown : w3.ownsRow w.heap.size 34 1 v2 (L.length + 1) (L.map (·.2) ++ [y.2])) (hgr : wa.grownBy w3 v.ownBlock) (hloc : v2.ownBlock = v.ownBlock ∨ v2.ownBlock = some wa.heap.size) : LsSt2 w w3 v2 (L ++ [y]) := by
  refine ⟨h.bel.grown hgr h.bel.size (fun k e => (h.own.lt _ e).1), by rw [List.length_append, List.map_append]; exact hown, fun z hz => ?_⟩
  rcases List.mem_append.1 hz with hz | hz
  · exact (h.off z hz).step hgr hloc
  · rw [List.mem_singleton.1 hz]; exact hy.step hgr hloc
theorem LsSt2.fin {w wr : World} {v : Value} {L : List LV} (h : LsSt2 w wr v L) (hs : ∀ y ∈ L, ∀ p ∈ y.1, SmallP p) : ∃ ao b cap, v = .slice ao (L.map (·.1)).length cap ∧ (L.map (·.1)).length ≤ maxLen ∧ LbsAt wr ao b 0 (L.map (·.1)) := by
  rcases h.own.2 with ⟨hv, h0⟩ | ⟨g, cap, cur, hv, hg, hh, hc1, hc2, hsz, htk⟩
  · have hnil : L = [] := List.length_eq_zero_iff.1 h0
    subst hnil
    exact ⟨none, 0, 0, hv, by simp, ⟨fun h => by simp at h, fun k h => by simp at h⟩⟩
  · refine ⟨some ⟨g, 0, none⟩, g, cap, by rw [List.length_map]; exact hv, by rw [List.length_map]; omega, ⟨fun _ => rfl, fun k hk => ?_⟩⟩
    rw [List.length_map] at hk
    rw [List.getElem_map, Nat.zero_add]
    refine ⟨L[k].2, ?_, (h.off _ (List.getElem_mem hk)).val (hs _ (List.getElem_mem hk))⟩
    rw [cell_blk hh, ← Array.getElem?_toList]
    have e : (cur.toList.take (L.length * 1))[k]? = (L.map (·.2))[k]? := by rw [htk]
    rw [List.getElem?_take, if_pos (by omega)] at e
    rw [e]
    simp [hk]
theorem Tryz.infoLabD : (Tryz.prog.info? 34).map (fun i => (i.zero, i.size, i.bytes)) = some (some (.slice none 0 0), 1, 24) := by kernel_rfl
end Go.Proofs.YtpbknhhjfhpkmaaGreatDoor
