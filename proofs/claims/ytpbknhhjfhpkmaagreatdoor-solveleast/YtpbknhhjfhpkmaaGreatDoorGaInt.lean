/- Rows of numbers, and rows of such rows; slices.Equal at numbers; slices.Equal of two lists tells whether they are the same. slices.ContainsFunc at numbers, with whatever test. -/
import Derived.Test.YtpbknhhjfhpkmaaGreatDoorOwnC
import Derived.BigQuiet
import Derived.Test.YtpbknhhjfhpkmaaGreatDoorGaFn
namespace Go.Proofs.YtpbknhhjfhpkmaaGreatDoor
open Go.RowKit

structure Ints (w : World) (ao : Option Addr) (b off : Nat) (l : List Int) : Prop where
  adr : 0 < l.length → ao = some ⟨b, off, none⟩
  cell : ∀ k (h : k < l.length), w.cell? ⟨b, off + k, none⟩ = some (.int .i64 l[k])
  lt : 0 < l.length → b < w.heap.size
theorem Ints.later {w w' : World} {ao : Option Addr} {b off : Nat} {l : List Int} (h : Ints w ao b off l) (hb : Below w.heap.size w w') : Ints w' ao b off l :=
  ⟨h.adr, fun k hk => (hb.cell (p := ⟨b, off + k, none⟩) (h.lt (by omega))).trans (h.cell k hk), fun hn => Nat.lt_of_lt_of_le (h.lt hn) hb.size⟩
/- A list of numbers, by its value. -/
def IntsAt (w : World) (v : Value) (l : List Int) : Prop := ∃ io ib ioff ic, v = .slice io l.length ic ∧ l.length ≤ maxLen ∧ Ints w io ib ioff l
theorem IntsAt.later {w w' : World} {v : Value} {l : List Int} (h : IntsAt w v l) (hb : Below w.heap.size w w') : IntsAt w' v l := by
  obtain ⟨io, ib, ioff, ic, h1, h2, h3⟩ := h
  exact ⟨io, ib, ioff, ic, h1, h2, h3.later hb⟩
structure InV (w : World) (ao : Option Addr) (b off : Nat) (ll : List (List Int)) : Prop where
  adr : 0 < ll.length → ao = some ⟨b, off, none⟩
  at' : ∀ k (h : k < ll.length), ∃ v, w.cell? ⟨b, off + k, none⟩ = some v ∧ IntsAt w v ll[k]
  lt : 0 < ll.length → b < w.heap.size
theorem InV.later {w w' : World} {ao : Option Addr} {b off : Nat} {ll : List (List Int)} (h : InV w ao b off ll) (hb : Below w.heap.size w w') : InV w' ao b off ll := by
  refine ⟨h.adr, fun k hk => ?_, fun hn => Nat.lt_of_lt_of_le (h.lt hn) hb.size⟩
  obtain ⟨v, h1, h2⟩ := h.at' k hk
  exact ⟨v, (hb.cell (p := ⟨b, off + k, none⟩) (h.lt (by omega))).trans h1, h2.later hb⟩

theorem drop_eq {α : Type} [DecidableEq α] {l m : List α} {k : Nat} (hk : k < l.length) (hm : k < m.length) : (decide (l.drop k = m.drop k)) = (decide (l[k] = m[k]) && decide (l.drop (k + 1) = m.drop (k + 1))) := by
  have key : ∀ (x y : α) (r s : List α), decide (x :: r = y :: s) = (decide (x = y) && decide (r = s)) := by
    intro x y r s
    by_cases h1 : x = y <;> by_cases h2 : r = s <;> simp [h1, h2]
  rw [List.drop_eq_getElem_cons hk, List.drop_eq_getElem_cons hm]
  exact key _ _ _ _

set_option maxHeartbeats 1000000 in
theorem eqInts (ao bo : Option Addr) (b off b' off' n n' c d : Nat) (l m : List Int) (w : World) (hn : n = l.length) (hn' : n' = m.length) (hm : n ≤ maxLen) (hm' : n' ≤ maxLen) (h1 : Ints w ao b off l) (h2 : Ints w bo b' off' m) :
    Calls Tryz.prog 16 #[.slice ao n c, .slice bo n' d] w fun e w' => e = .returned (.bool (decide (l = m))) ∧ ∃ q, w' = w.drewN q := by
  have HN : Hid (n = l.length) := hn
  have HN' : Hid (n' = m.length) := hn'
  unfold maxLen at hm hm'
  clear hn hn'
  by_cases hnn : n = n'
  · subst hnn
    go_enter Tryz.func16, Tryz.ntmps16
    go_wp2
    go_loopw [13] (fun i wr => ∃ k : Nat, k ≤ n ∧ i = .int .i64 k ∧ Hid (decide (l.drop k = m.drop k) = decide (l = m)) ∧ ∃ q, wr = w.drewN q) (fun i _ => n - (intOf i).toNat)
    case atStart => exact ⟨0, Nat.zero_le _, rfl, by show _ = _; simp, 0, rfl⟩
    case round =>
      obtain ⟨k, hk, rfl, HK, q, rfl⟩ := hrel
      by_cases hlt : k < n
      · have hkl : k < l.length := by have := HN.out; omega
        have hkm : k < m.length := by have := HN'.out; omega
        have e1 := h1.adr (by omega)
        have e2 := h2.adr (by omega)
        have f1 := h1.cell k hkl
        have f2 := h2.cell k hkm
        have hst := drop_eq hkl hkm
        obtain ⟨x, hx⟩ : ∃ x, x = l[k] := ⟨_, rfl⟩
        obtain ⟨y, hy⟩ : ∃ y, y = m[k] := ⟨_, rfl⟩
        rw [← hx] at f1 hst
        rw [← hy] at f2 hst
        clear hx hy
        subst e1 e2
        by_cases hxy : x = y
        · have HE : Hid (decide (l.drop (k + 1) = m.drop (k + 1)) = decide (l = m)) := by show _ = _; rw [← HK.out, hst, decide_eq_true hxy, Bool.true_and]
          have bn : (x != y) = false := by simp [hxy]
          have bq : (x == y) = true := by simp [hxy]
          clear hst
          subst hxy
          go_wp2
          go_quiet (fail)
          go_wp2
          go_roundw
          case rel => exact ⟨k + 1, by omega, by go_num, HE, q + nq, by simp⟩
          case measure => simp [intOf]; omega
        · have HE : Hid (decide (l = m) = false) := by show _ = _; rw [← HK.out, hst, decide_eq_false hxy, Bool.false_and]
          have bn : (x != y) = true := by simp [hxy]
          have bq : (x == y) = false := by simp [hxy]
          clear hst hxy
          go_wp2
          go_quiet (fail)
          go_wp2
          go_ret
          refine ⟨?_, q + nq, by simp⟩
          rw [HE.out]; rfl
      · have HE : Hid (decide (l = m) = true) := by
          show _ = _
          rw [← HK.out, List.drop_of_length_le (by have := HN.out; omega), List.drop_of_length_le (by have := HN'.out; omega)]; rfl
        go_wp2
        go_ret
        refine ⟨?_, q, rfl⟩
        rw [HE.out]; rfl
  · have HE : Hid (decide (l = m) = false) := by
      show _ = _
      refine decide_eq_false fun e => hnn ?_
      rw [HN.out, HN'.out, e]
    rw [HE.out]
    have bn : ((n : Int) == (n' : Int)) = false := by simp; omega
    have bb : ((n : Int) != (n' : Int)) = true := by simp; omega
    go_enter Tryz.func16, Tryz.ntmps16
    go_wp2
    go_ret
    exact ⟨rfl, 0, rfl⟩
end Go.Proofs.YtpbknhhjfhpkmaaGreatDoor

namespace Go.Proofs.YtpbknhhjfhpkmaaGreatDoor
open Go.RowKit
set_option maxHeartbeats 1000000 in
theorem indexFuncI (g : Nat) (lb : Array Value) (eg : ∀ args w, (callFunc g args).run Tryz.prog w = .ok (.enter g args) w) (t : Int → Bool) (ao : Option Addr) (b off n c : Nat) (ls : List Int) (w : World) (hn : n = ls.length) (hm : n ≤ 1000) (ht : Ints w ao b off ls)
    (hp : ∀ (W : World) (s : Int), s ∈ ls → Below w.heap.size w W → Calls Tryz.prog g (#[.int .i64 s] ++ lb) W fun e w' => e = .returned (.bool (t s)) ∧ Below W.heap.size W w') :
    Calls Tryz.prog 131 #[.slice ao n c, .func (.func g) #[] lb] w fun e w' => e = .returned (.int .i64 (firstI t ls)) ∧ Below w.heap.size w w' := by
  have HL : Hid (n = ls.length) := hn
  have HP : Hid (∀ (W : World) (s : Int), s ∈ ls → Below w.heap.size w W → Calls Tryz.prog g (#[.int .i64 s] ++ lb) W fun e w' => e = .returned (.bool (t s)) ∧ Below W.heap.size W w') := hp
  clear hn hp
  go_enter Tryz.func131, Tryz.ntmps131
  go_wp2
  go_loopw [8] (fun i wr => ∃ k : Nat, k ≤ n ∧ i = .int .i64 k ∧ Hid (∀ s ∈ ls.take k, t s = false) ∧ Hid (Below w.heap.size w wr)) (fun i _ => n - (intOf i).toNat)
  case atStart => exact ⟨0, Nat.zero_le _, rfl, by show ∀ s ∈ _, _; simp, Below.refl _ _⟩
  case round =>
    obtain ⟨k, hk, rfl, HN, HB⟩ := hrel
    by_cases hlt : k < n
    · have hl0 := HL.out
      have hao := ht.adr (by omega)
      have hkl : k < ls.length := by omega
      have f0 := (ht.later HB.out).cell k hkl
      obtain ⟨x, hx⟩ : ∃ x, x = ls[k] := ⟨_, rfl⟩
      have hcall := HP.out wr x (hx ▸ List.getElem_mem hkl) HB.out
      have HX : Hid (x = ls[k]) := hx
      rw [← hx] at f0
      clear hl0 hx
      subst hao
      cases hq : t x with
      | true =>
        rw [hq] at hcall
        have HF : Hid (firstI t ls = (k : Int)) := firstI_hit hkl HN.out (by rw [← HX.out]; exact hq)
        clear hq
        go_wp2_with fail
        refine hcall.mono ?_
        rintro e w1 ⟨rfl, hb1⟩
        go_wp2
        go_ret
        refine ⟨?_, HB.out.trans (hb1.mono HB.out.size)⟩
        rw [HF.out]; rfl
      | false =>
        rw [hq] at hcall
        have HS : Hid (∀ s ∈ ls.take (k + 1), t s = false) := none_step hkl HN.out (by rw [← HX.out]; exact hq)
        clear hq
        go_wp2_with fail
        refine hcall.mono ?_
        rintro e w1 ⟨rfl, hb1⟩
        have HB1 : Hid (Below w.heap.size w w1) := HB.out.trans (hb1.mono HB.out.size)
        clear hb1
        go_wp2
        go_roundw
        case rel => exact ⟨k + 1, by omega, by go_num, HS, HB1⟩
        case measure => simp [intOf]; omega
    · have HF : Hid (firstI t ls = -1) := firstI_miss (by
        have := HN.out
        rwa [List.take_of_length_le (by have := HL.out; omega)] at this)
      go_wp2
      go_ret
      refine ⟨?_, HB.out⟩
      rw [HF.out]; rfl

set_option maxHeartbeats 1000000 in
theorem containsFuncI (g : Nat) (lb : Array Value) (eg : ∀ args w, (callFunc g args).run Tryz.prog w = .ok (.enter g args) w) (t : Int → Bool) (ao : Option Addr) (b off n c : Nat) (ls : List Int) (w : World) (hn : n = ls.length) (hm : n ≤ 1000) (ht : Ints w ao b off ls)
    (hp : ∀ (W : World) (s : Int), s ∈ ls → Below w.heap.size w W → Calls Tryz.prog g (#[.int .i64 s] ++ lb) W fun e w' => e = .returned (.bool (t s)) ∧ Below W.heap.size W w') :
    Calls Tryz.prog 82 #[.slice ao n c, .func (.func g) #[] lb] w fun e w' => e = .returned (.bool (ls.any t)) ∧ Below w.heap.size w w' := by
  rw [← firstI_geq]
  have HI := indexFuncI g lb eg t ao b off n c ls w hn hm ht hp
  clear hm hn ht hp eg
  obtain ⟨p, hp⟩ : ∃ p, p = firstI t ls := ⟨_, rfl⟩
  rw [← hp] at HI ⊢
  have HK : Hid (Calls Tryz.prog 131 #[.slice ao n c, .func (.func g) #[] lb] w fun e w' => e = .returned (.int .i64 p) ∧ Below w.heap.size w w') := HI
  clear HI hp
  go_enter Tryz.func82, Tryz.ntmps82
  go_wp2_with fail
  refine HK.out.mono ?_
  rintro e w1 ⟨rfl, hb1⟩
  go_wp2
  go_ret
  exact ⟨rfl, hb1⟩

end Go.Proofs.YtpbknhhjfhpkmaaGreatDoor
