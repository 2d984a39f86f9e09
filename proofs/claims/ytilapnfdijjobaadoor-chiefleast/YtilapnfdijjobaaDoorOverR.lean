/- The law ChiefLeast's two tests, and slices.ContainsFunc with the second. -/
import Derived.Test.YtilapnfdijjobaaDoorActsR
import Derived.Test.YtilapnfdijjobaaDoorLeastP
namespace Go.Proofs.YtilapnfdijjobaaDoor
open Go.RowKit

def overV (ls : List ByteArray) (ps : List (ByteArray × ByteArray)) (a b : ByteArray) : Bool := decide (a ≠ b) && Act.acts ls ps a b
/- What the tests' captured variables hold. -/
structure OverAt (w : World) (A : Nat) (po : Option Addr) (b' off' m d : Nat) (ls : List ByteArray) (ps : List (ByteArray × ByteArray)) : Prop where
  cell : w.cell? ⟨A, 0, none⟩ = some (.slice po m d)
  lm : m = ps.length
  m10 : m ≤ 10
  prs : Prs w po b' off' ps
  right : Act.Right ls ps
theorem OverAt.later {w w' : World} {A : Nat} {po : Option Addr} {b' off' m d : Nat} {ls : List ByteArray} {ps : List (ByteArray × ByteArray)} (h : OverAt w A po b' off' m d ls ps) (hb : Below w.heap.size w w') : OverAt w' A po b' off' m d ls ps :=
  ⟨(hb.cell (p := ⟨A, 0, none⟩) (World.block_lt_of_cell? w _ h.cell)).trans h.cell, h.lm, h.m10, h.prs.later hb, h.right⟩

set_option maxHeartbeats 1000000 in
theorem over_any {w : World} {A : Nat} {po : Option Addr} {b' off' m d : Nat} {ls : List ByteArray} {ps : List (ByteArray × ByteArray)} (h : Hid (OverAt w A po b' off' m d ls ps)) (x y : ByteArray) (hx : Hid (x ∈ ls)) (hy : Hid (y ∈ ls)) :
    Calls Tryd.prog 23 #[.string x, .string y, .pointer (some ⟨A, 0, none⟩)] w fun e w' => e = .returned (.bool (overV ls ps x y)) ∧ Below w.heap.size w w' := by
  have c0 := h.out.cell
  by_cases hxy : x = y
  · have HV : Hid (overV ls ps x y = false) := by show _ = _; simp [overV, hxy]
    rw [HV.out]
    subst hxy
    go_enter Tryd.func23, Tryd.ntmps23
    go_wp2
    go_ret
    exact ⟨rfl, Below.refl _ _⟩
  · have HV : Hid (overV ls ps x y = Act.acts ls ps x y) := by show _ = _; simp [overV, hxy]
    have hbe := beq_ne hxy
    have HAI : Hid (Act.acts ls ps x y = true ↔ Act.Way ps x y) := Act.acts_iff h.out.right hx.out hy.out
    rw [HV.out]
    clear HV hxy
    go_enter Tryd.func23, Tryd.ntmps23
    go_wp2_with fail
    refine (actsR_any _ _ _ _ _ ps x y _ h.out.lm h.out.m10 h.out.prs).mono ?_
    rintro e w1 ⟨r0, rfl, hr0, hb1⟩
    have HRR : Hid (Act.acts ls ps x y = r0) := by
      show _ = _
      rw [Bool.eq_iff_iff, HAI.out, hr0]
    clear hr0
    go_wp2
    go_ret
    rw [HRR.out]
    exact ⟨rfl, hb1⟩

/- The second test's. -/
structure TestAt (w : World) (A O X Y : Nat) (a b : ByteArray) : Prop where
  cO : w.cell? ⟨O, 0, none⟩ = some (.func (.func 23) #[] #[.pointer (some ⟨A, 0, none⟩)])
  cX : w.cell? ⟨X, 0, none⟩ = some (.string a)
  cY : w.cell? ⟨Y, 0, none⟩ = some (.string b)
theorem TestAt.later {w w' : World} {A O X Y : Nat} {a b : ByteArray} (h : TestAt w A O X Y a b) (hb : Below w.heap.size w w') : TestAt w' A O X Y a b :=
  ⟨(hb.cell (p := ⟨O, 0, none⟩) (World.block_lt_of_cell? w _ h.cO)).trans h.cO, (hb.cell (p := ⟨X, 0, none⟩) (World.block_lt_of_cell? w _ h.cX)).trans h.cX, (hb.cell (p := ⟨Y, 0, none⟩) (World.block_lt_of_cell? w _ h.cY)).trans h.cY⟩
def betwV (ls : List ByteArray) (ps : List (ByteArray × ByteArray)) (a b z : ByteArray) : Bool := overV ls ps a z && overV ls ps z b

set_option maxHeartbeats 1000000 in
theorem test2_any {w : World} {A O X Y : Nat} {a b : ByteArray} {po : Option Addr} {b' off' m d : Nat} {ls : List ByteArray} {ps : List (ByteArray × ByteArray)} (h : Hid (OverAt w A po b' off' m d ls ps)) (ht : Hid (TestAt w A O X Y a b)) (z : ByteArray) (ha : Hid (a ∈ ls)) (hb : Hid (b ∈ ls)) (hz : Hid (z ∈ ls)) :
    Calls Tryd.prog 25 #[.string z, .pointer (some ⟨O, 0, none⟩), .pointer (some ⟨X, 0, none⟩), .pointer (some ⟨Y, 0, none⟩)] w fun e w' => e = .returned (.bool (betwV ls ps a b z)) ∧ Below w.heap.size w w' := by
  have c1 := ht.out.cO
  have c2 := ht.out.cX
  have c3 := ht.out.cY
  go_enter Tryd.func25, Tryd.ntmps25
  go_wp2_with fail
  refine (over_any h a z ha hz).mono ?_
  rintro e w1 ⟨rfl, hb1⟩
  have H1 : Hid (OverAt w1 A po b' off' m d ls ps) := h.out.later hb1
  have T1 := ht.out.later hb1
  have d1 := T1.cO
  have d2 := T1.cX
  have d3 := T1.cY
  clear T1
  obtain ⟨v1, h1⟩ : ∃ v, overV ls ps a z = v := ⟨_, rfl⟩
  rw [h1]
  have HV1 : Hid (overV ls ps a z = v1) := h1
  clear h1
  cases v1 with
  | false =>
    have HE : Hid (betwV ls ps a b z = false) := by show _ = _; simp [betwV, HV1.out]
    go_wp2
    go_ret
    rw [HE.out]
    exact ⟨rfl, hb1⟩
  | true =>
    have HE : Hid (betwV ls ps a b z = overV ls ps z b) := by show _ = _; simp [betwV, HV1.out]
    go_wp2_with fail
    refine (over_any H1 z b hz hb).mono ?_
    rintro e w2 ⟨rfl, hb2⟩
    go_wp2
    go_ret
    rw [HE.out]
    exact ⟨rfl, hb1.trans (hb2.mono hb1.size)⟩

set_option maxHeartbeats 1000000 in
theorem indexFunc2 {w : World} {A O X Y : Nat} {a b : ByteArray} {po : Option Addr} {b' off' m d : Nat} {ls : List ByteArray} {ps : List (ByteArray × ByteArray)} (ao : Option Addr) (b0 off n c : Nat) (hn : n = ls.length) (hm : n ≤ 1000) (hs : Strs w ao b0 off ls) (h : OverAt w A po b' off' m d ls ps) (ht : TestAt w A O X Y a b) (ha : Hid (a ∈ ls)) (hb : Hid (b ∈ ls)) :
    Calls Tryd.prog 43 #[.slice ao n c, .func (.func 25) #[] #[.pointer (some ⟨O, 0, none⟩), .pointer (some ⟨X, 0, none⟩), .pointer (some ⟨Y, 0, none⟩)]] w fun e w' => ∃ i : Int, e = .returned (.int .i64 i) ∧ decide (0 ≤ i) = ls.any (betwV ls ps a b) ∧ Below w.heap.size w w' := by
  have HL : Hid (n = ls.length) := hn
  have HS : Hid (Strs w ao b0 off ls) := hs
  have HO : Hid (OverAt w A po b' off' m d ls ps) := h
  have HT : Hid (TestAt w A O X Y a b) := ht
  clear hn hs h ht
  go_enter Tryd.func43, Tryd.ntmps43
  go_wp2
  go_loopw [8] (fun i wr => ∃ k : Nat, k ≤ n ∧ i = .int .i64 k ∧ Hid (∀ z ∈ ls.take k, betwV ls ps a b z = false) ∧ Hid (Below w.heap.size w wr)) (fun i _ => n - (intOf i).toNat)
  case atStart => exact ⟨0, Nat.zero_le _, rfl, by show ∀ _, _; simp, Below.refl _ _⟩
  case round =>
    obtain ⟨k, hk, rfl, HN, HB⟩ := hrel
    by_cases hlt : k < n
    · have hl0 := HL.out
      have hkl : k < ls.length := by omega
      have hao := HS.out.adr (by omega)
      have f0 := (HS.out.later HB.out).cell k hkl
      obtain ⟨x, hx⟩ : ∃ x, x = ls[k] := ⟨_, rfl⟩
      rw [← hx] at f0
      have HZ : Hid (x ∈ ls) := hx ▸ List.getElem_mem hkl
      have HX : Hid (x = ls[k]) := hx
      have HOW : Hid (OverAt wr A po b' off' m d ls ps) := HO.out.later HB.out
      have HTW : Hid (TestAt wr A O X Y a b) := HT.out.later HB.out
      clear hl0 hx
      subst hao
      go_wp2_with fail
      refine (test2_any HOW HTW x ha hb HZ).mono ?_
      rintro e w1 ⟨rfl, hb1⟩
      have HB1 : Hid (Below w.heap.size w w1) := HB.out.trans (hb1.mono HB.out.size)
      obtain ⟨v, hv⟩ : ∃ v, betwV ls ps a b x = v := ⟨_, rfl⟩
      rw [hv]
      have HV : Hid (betwV ls ps a b x = v) := hv
      clear hv hb1
      cases v with
      | true =>
        have HA : Hid (ls.any (betwV ls ps a b) = true) := List.any_eq_true.2 ⟨x, HZ.out, HV.out⟩
        go_wp2
        go_ret
        refine ⟨_, rfl, ?_, HB1.out⟩
        rw [HA.out]; simp
      | false =>
        have HN2 : Hid (∀ z ∈ ls.take (k + 1), betwV ls ps a b z = false) := by
          intro z hz
          rw [List.take_succ_eq_append_getElem hkl, List.mem_append, List.mem_singleton] at hz
          rcases hz with hz | rfl
          · exact HN.out z hz
          · rw [← HX.out]; exact HV.out
        go_wp2
        go_roundw
        case rel => exact ⟨k + 1, by omega, by go_num, HN2, HB1⟩
        case measure => simp [intOf]; omega
    · have HA : Hid (ls.any (betwV ls ps a b) = false) := by
        show _ = _
        rw [List.any_eq_false]
        intro z hz
        have := HN.out z (by rw [List.take_of_length_le (by have := HL.out; omega)]; exact hz)
        simp [this]
      go_wp2
      go_ret
      exact ⟨_, rfl, by rw [HA.out]; rfl, HB.out⟩

theorem containsFunc2 {w : World} {A O X Y : Nat} {a b : ByteArray} {po : Option Addr} {b' off' m d : Nat} {ls : List ByteArray} {ps : List (ByteArray × ByteArray)} (ao : Option Addr) (b0 off n c : Nat) (hn : n = ls.length) (hm : n ≤ 1000) (hs : Strs w ao b0 off ls) (h : OverAt w A po b' off' m d ls ps) (ht : TestAt w A O X Y a b) (ha : Hid (a ∈ ls)) (hb : Hid (b ∈ ls)) :
    Calls Tryd.prog 24 #[.slice ao n c, .func (.func 25) #[] #[.pointer (some ⟨O, 0, none⟩), .pointer (some ⟨X, 0, none⟩), .pointer (some ⟨Y, 0, none⟩)]] w fun e w' => e = .returned (.bool (ls.any (betwV ls ps a b))) ∧ Below w.heap.size w w' := by
  have HK : Hid (Calls Tryd.prog 43 #[.slice ao n c, .func (.func 25) #[] #[.pointer (some ⟨O, 0, none⟩), .pointer (some ⟨X, 0, none⟩), .pointer (some ⟨Y, 0, none⟩)]] w fun e w' => ∃ i : Int, e = .returned (.int .i64 i) ∧ decide (0 ≤ i) = ls.any (betwV ls ps a b) ∧ Below w.heap.size w w') := indexFunc2 ao b0 off n c hn hm hs h ht ha hb
  clear hn hm hs h ht
  go_enter Tryd.func24, Tryd.ntmps24
  go_wp2_with fail
  refine HK.out.mono ?_
  rintro e w1 ⟨i, rfl, hi, hb1⟩
  have HI : Hid (decide (0 ≤ i) = ls.any (betwV ls ps a b)) := hi
  clear hi
  go_wp2
  go_ret
  rw [← HI.out]
  exact ⟨rfl, hb1⟩

/- What one place says, by the tests. -/
theorem over_none {ls : List ByteArray} {ps : List (ByteArray × ByteArray)} {a b : ByteArray} (h : overV ls ps a b = false) : Act.cover ls ps a b = false ∧ Act.mutual2 ls ps a b = false := by
  have e : decide (a ≠ b) = true → Act.acts ls ps a b = false := by
    intro hd; simpa [overV, hd] using h
  unfold Act.cover Act.mutual2
  cases hd : decide (a ≠ b) with
  | false => simp
  | true => rw [e hd]; simp
theorem over_both {ls : List ByteArray} {ps : List (ByteArray × ByteArray)} {a b : ByteArray} (ha : a ∈ ls) (hb : b ∈ ls) (h : overV ls ps a b = true) (h' : overV ls ps b a = true) : Act.Both ls ps := by
  simp only [overV, Bool.and_eq_true] at h h'
  exact ⟨a, ha, b, hb, by unfold Act.mutual2; rw [h.1, h.2, h'.2]; rfl⟩
theorem over_one {ls : List ByteArray} {ps : List (ByteArray × ByteArray)} {a b : ByteArray} (h : overV ls ps a b = true) (h' : overV ls ps b a = false) : Act.cover ls ps a b = !ls.any (betwV ls ps a b) ∧ Act.mutual2 ls ps a b = false := by
  simp only [overV, Bool.and_eq_true] at h
  have hne : a ≠ b := by simpa using h.1
  have hba : Act.acts ls ps b a = false := by
    have : decide (b ≠ a) = true := by simp; exact fun e => hne e.symm
    simpa [overV, this] using h'
  refine ⟨?_, by unfold Act.mutual2; rw [hba]; simp⟩
  unfold Act.cover
  rw [h.1, h.2]
  simp only [Bool.true_and]
  rw [Bool.eq_iff_iff]
  simp only [List.isEmpty_iff, Bool.not_eq_true', List.any_eq_false]
  constructor
  · intro hm z hz
    have : z ∉ Act.mid ls ps a b := by rw [hm]; simp
    intro hv
    apply this
    simp only [betwV, overV, Bool.and_eq_true, decide_eq_true_eq] at hv
    exact Act.mid_mem.2 ⟨hz, fun e => hv.1.1 e.symm, hv.2.1, hv.1.2, hv.2.2⟩
  · intro hm
    rw [List.eq_nil_iff_forall_not_mem]
    intro z hz
    obtain ⟨g1, g2, g3, g4, g5⟩ := Act.mid_mem.1 hz
    apply hm z g1
    simp only [betwV, overV, Bool.and_eq_true, decide_eq_true_eq]
    exact ⟨⟨fun e => g2 e.symm, g4⟩, g3, g5⟩
end Go.Proofs.YtilapnfdijjobaaDoor
