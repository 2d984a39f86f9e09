/- Rows of policies: an owner and a slice of readers each. slices.ContainsFunc at strings and at policies, with whatever test. What label.Print's contract asks for, in a seat that has no chiefs. -/
import Derived.Test.YtcdeicfegfedfaaGreatDoorCStr
import Derived.Test.YtcdeicfegfedfaaGreatDoorLab
import Derived.Test.YtcdeicfegfedfaaGreatDoorChecked
import Derived.Test.YtcdeicfegfedfaaGreatDoorGaLabT
import Derived.Test.YtcdeicfegfedfaaGreatDoorGaRow
import Derived.WalkKit
import Derived.ProofKit
import Derived.Shelf.Abstract
namespace Go.Proofs.YtcdeicfegfedfaaGreatDoor
open Go.RowKit

/- A policy's readers lie somewhere. -/
def ReadersAt (w : World) (v : Value) (rs : List ByteArray) : Prop := ∃ ro rb roff rc, v = .slice ro rs.length rc ∧ rs.length ≤ rc ∧ rc ≤ maxLen ∧ Strs w ro rb roff rs
theorem ReadersAt.later {w w' : World} {v : Value} {rs : List ByteArray} (h : ReadersAt w v rs) (hb : Below w.heap.size w w') : ReadersAt w' v rs := by
  obtain ⟨ro, rb, roff, rc, h1, h2, h3, h4⟩ := h
  exact ⟨ro, rb, roff, rc, h1, h2, h3, h4.later hb⟩
structure Pols (w : World) (ao : Option Addr) (b off : Nat) (x : List (ByteArray × List ByteArray)) : Prop where
  adr : 0 < x.length → ao = some ⟨b, off, none⟩
  c0 : ∀ k (h : k < x.length), w.cell? ⟨b, off + k * 2, none⟩ = some (.string x[k].1)
  c1 : ∀ k (h : k < x.length), ∃ v, w.cell? ⟨b, off + k * 2 + 1, none⟩ = some v ∧ ReadersAt w v x[k].2
  lt : 0 < x.length → b < w.heap.size
theorem Pols.later {w w' : World} {ao : Option Addr} {b off : Nat} {x : List (ByteArray × List ByteArray)} (h : Pols w ao b off x) (hb : Below w.heap.size w w') : Pols w' ao b off x := by
  refine ⟨h.adr, fun k hk => (hb.cell (p := ⟨b, off + k * 2, none⟩) (h.lt (by omega))).trans (h.c0 k hk), fun k hk => ?_, fun hn => Nat.lt_of_lt_of_le (h.lt hn) hb.size⟩
  obtain ⟨v, h1, h2⟩ := h.c1 k hk
  exact ⟨v, (hb.cell (p := ⟨b, off + k * 2 + 1, none⟩) (h.lt (by omega))).trans h1, h2.later hb⟩
end Go.Proofs.YtcdeicfegfedfaaGreatDoor

namespace Go.Proofs.YtcdeicfegfedfaaGreatDoor
open Go.RowKit

/- The first place at which a test says yes. -/
def firstI {α : Type} (t : α → Bool) (l : List α) : Int := if l.any t = true then (l.findIdx t : Int) else -1
theorem firstI_geq {α : Type} (t : α → Bool) (l : List α) : decide (0 ≤ firstI t l) = l.any t := by
  unfold firstI
  cases h : l.any t <;> simp
theorem firstI_hit {α : Type} {t : α → Bool} {l : List α} {k : Nat} (hk : k < l.length) (hn : ∀ s ∈ l.take k, t s = false) (h : t l[k] = true) : firstI t l = (k : Int) := by
  have ha : l.any t = true := List.any_eq_true.2 ⟨_, List.getElem_mem hk, h⟩
  have e : l.findIdx t = k := by
    rw [List.findIdx_eq hk]
    refine ⟨h, fun j hj => ?_⟩
    have := hn l[j] (by rw [List.mem_take_iff_getElem]; exact ⟨j, by omega, rfl⟩)
    simpa using this
  simp [firstI, ha, e]
theorem firstI_miss {α : Type} {t : α → Bool} {l : List α} (hn : ∀ s ∈ l, t s = false) : firstI t l = -1 := by
  have ha : l.any t = false := List.any_eq_false.2 fun x hx => by simp [hn x hx]
  simp [firstI, ha]
theorem none_step {α : Type} {t : α → Bool} {l : List α} {k : Nat} (hk : k < l.length) (hn : ∀ s ∈ l.take k, t s = false) (h : t l[k] = false) : ∀ s ∈ l.take (k + 1), t s = false := by
  intro s hs
  rw [List.take_succ_eq_append_getElem hk, List.mem_append, List.mem_singleton] at hs
  rcases hs with hs | hs
  · exact hn s hs
  · rw [hs]; exact h

set_option maxHeartbeats 1000000 in
theorem indexFuncS (g : Nat) (lb : Array Value) (eg : ∀ args w, (callFunc g args).run Tryz.prog w = .ok (.enter g args) w) (t : ByteArray → Bool) (ao : Option Addr) (b off n c : Nat) (ls : List ByteArray) (w : World) (hn : n = ls.length) (hm : n ≤ 1000) (ht : Strs w ao b off ls)
    (hp : ∀ (W : World) (s : ByteArray), s ∈ ls → Below w.heap.size w W → Calls Tryz.prog g (#[.string s] ++ lb) W fun e w' => e = .returned (.bool (t s)) ∧ Below W.heap.size W w') :
    Calls Tryz.prog 148 #[.slice ao n c, .func (.func g) #[] lb] w fun e w' => e = .returned (.int .i64 (firstI t ls)) ∧ Below w.heap.size w w' := by
  have HL : Hid (n = ls.length) := hn
  have HP : Hid (∀ (W : World) (s : ByteArray), s ∈ ls → Below w.heap.size w W → Calls Tryz.prog g (#[.string s] ++ lb) W fun e w' => e = .returned (.bool (t s)) ∧ Below W.heap.size W w') := hp
  clear hn hp
  go_enter Tryz.func148, Tryz.ntmps148
  go_wp2
  go_loopw [8] (fun i wr => ∃ k : Nat, k ≤ n ∧ i = .int .i64 k ∧ Hid (∀ s ∈ ls.take k, t s = false) ∧ Hid (Below w.heap.size w wr)) (fun i _ => n - (intOf i).toNat)
  case atStart => exact ⟨0, Nat.zero_le _, rfl, by show ∀ s ∈ _, _; simp, Below.refl _ _⟩
  case round =>
    obtain ⟨k, hk, rfl, HN, HB⟩ := hrel
    by_cases hlt : k < n
    · have hl0 := HL.out
      have hao := ht.adr (by omega)
      have hkl : k < ls.length := by omega
      have f0 := (ht.later HB.out).cell k hkl
      obtain ⟨x, hx⟩ : ∃ x, x = ls[k] := ⟨_, rfl⟩
      have hcall := HP.out wr x (hx ▸ List.getElem_mem hkl) HB.out
      have HX : Hid (x = ls[k]) := hx
      rw [← hx] at f0
      clear hl0 hx
      subst hao
      cases hq : t x with
      | true =>
        rw [hq] at hcall
        have HF : Hid (firstI t ls = (k : Int)) := firstI_hit hkl HN.out (by rw [← HX.out]; exact hq)
        clear hq
        go_wp2_with fail
        refine hcall.mono ?_
        rintro e w1 ⟨rfl, hb1⟩
        go_wp2
        go_ret
        refine ⟨?_, HB.out.trans (hb1.mono HB.out.size)⟩
        rw [HF.out]; rfl
      | false =>
        rw [hq] at hcall
        have HS : Hid (∀ s ∈ ls.take (k + 1), t s = false) := none_step hkl HN.out (by rw [← HX.out]; exact hq)
        clear hq
        go_wp2_with fail
        refine hcall.mono ?_
        rintro e w1 ⟨rfl, hb1⟩
        have HB1 : Hid (Below w.heap.size w w1) := HB.out.trans (hb1.mono HB.out.size)
        clear hb1
        go_wp2
        go_roundw
        case rel => exact ⟨k + 1, by omega, by go_num, HS, HB1⟩
        case measure => simp [intOf]; omega
    · have HF : Hid (firstI t ls = -1) := firstI_miss (by
        have := HN.out
        rwa [List.take_of_length_le (by have := HL.out; omega)] at this)
      go_wp2
      go_ret
      refine ⟨?_, HB.out⟩
      rw [HF.out]; rfl

set_option maxHeartbeats 1000000 in
theorem containsFuncS (g : Nat) (lb : Array Value) (eg : ∀ args w, (callFunc g args).run Tryz.prog w = .ok (.enter g args) w) (t : ByteArray → Bool) (ao : Option Addr) (b off n c : Nat) (ls : List ByteArray) (w : World) (hn : n = ls.length) (hm : n ≤ 1000) (ht : Strs w ao b off ls)
    (hp : ∀ (W : World) (s : ByteArray), s ∈ ls → Below w.heap.size w W → Calls Tryz.prog g (#[.string s] ++ lb) W fun e w' => e = .returned (.bool (t s)) ∧ Below W.heap.size W w') :
    Calls Tryz.prog 108 #[.slice ao n c, .func (.func g) #[] lb] w fun e w' => e = .returned (.bool (ls.any t)) ∧ Below w.heap.size w w' := by
  rw [← firstI_geq]
  have HI := indexFuncS g lb eg t ao b off n c ls w hn hm ht hp
  clear hm hn ht hp eg
  obtain ⟨p, hp⟩ : ∃ p, p = firstI t ls := ⟨_, rfl⟩
  rw [← hp] at HI ⊢
  have HK : Hid (Calls Tryz.prog 148 #[.slice ao n c, .func (.func g) #[] lb] w fun e w' => e = .returned (.int .i64 p) ∧ Below w.heap.size w w') := HI
  clear HI hp
  go_enter Tryz.func108, Tryz.ntmps108
  go_wp2_with fail
  refine HK.out.mono ?_
  rintro e w1 ⟨rfl, hb1⟩
  go_wp2
  go_ret
  exact ⟨rfl, hb1⟩

set_option maxHeartbeats 1000000 in
theorem indexFuncP (g : Nat) (lb : Array Value) (eg : ∀ args w, (callFunc g args).run Tryz.prog w = .ok (.enter g args) w) (t : Pol → Bool) (ao : Option Addr) (b off n c : Nat) (ls : List Pol) (w : World) (hn : n = ls.length) (hm : n ≤ 1000) (ht : Pols w ao b off ls)
    (hp : ∀ (W : World) (s : Pol) (v : Value), s ∈ ls → ReadersAt W v s.2 → Below w.heap.size w W → Calls Tryz.prog g (#[.agg #[.string s.1, v]] ++ lb) W fun e w' => e = .returned (.bool (t s)) ∧ Below W.heap.size W w') :
    Calls Tryz.prog 157 #[.slice ao n c, .func (.func g) #[] lb] w fun e w' => e = .returned (.int .i64 (firstI t ls)) ∧ Below w.heap.size w w' := by
  have HL : Hid (n = ls.length) := hn
  have HP : Hid (∀ (W : World) (s : Pol) (v : Value), s ∈ ls → ReadersAt W v s.2 → Below w.heap.size w W → Calls Tryz.prog g (#[.agg #[.string s.1, v]] ++ lb) W fun e w' => e = .returned (.bool (t s)) ∧ Below W.heap.size W w') := hp
  clear hn hp
  go_enter Tryz.func157, Tryz.ntmps157
  go_wp2
  go_loopw [8] (fun i wr => ∃ k : Nat, k ≤ n ∧ i = .int .i64 k ∧ Hid (∀ s ∈ ls.take k, t s = false) ∧ Hid (Below w.heap.size w wr)) (fun i _ => n - (intOf i).toNat)
  case atStart => exact ⟨0, Nat.zero_le _, rfl, by show ∀ s ∈ _, _; simp, Below.refl _ _⟩
  case round =>
    obtain ⟨k, hk, rfl, HN, HB⟩ := hrel
    by_cases hlt : k < n
    · have hl0 := HL.out
      have hao := ht.adr (by omega)
      have hkl : k < ls.length := by omega
      have f0 := (ht.later HB.out).c0 k hkl
      obtain ⟨v, f1, hv⟩ := (ht.later HB.out).c1 k hkl
      obtain ⟨x, hx⟩ : ∃ x, x = ls[k] := ⟨_, rfl⟩
      rw [← hx] at f0 hv
      have hcall := HP.out wr x v (hx ▸ List.getElem_mem hkl) hv HB.out
      have HX : Hid (x = ls[k]) := hx
      clear hl0 hx hv
      subst hao
      cases hq : t x with
      | true =>
        rw [hq] at hcall
        have HF : Hid (firstI t ls = (k : Int)) := firstI_hit hkl HN.out (by rw [← HX.out]; exact hq)
        clear hq
        go_wp2_with fail
        refine hcall.mono ?_
        rintro e w1 ⟨rfl, hb1⟩
        go_wp2
        go_ret
        refine ⟨?_, HB.out.trans (hb1.mono HB.out.size)⟩
        rw [HF.out]; rfl
      | false =>
        rw [hq] at hcall
        have HS : Hid (∀ s ∈ ls.take (k + 1), t s = false) := none_step hkl HN.out (by rw [← HX.out]; exact hq)
        clear hq
        go_wp2_with fail
        refine hcall.mono ?_
        rintro e w1 ⟨rfl, hb1⟩
        have HB1 : Hid (Below w.heap.size w w1) := HB.out.trans (hb1.mono HB.out.size)
        clear hb1
        go_wp2
        go_roundw
        case rel => exact ⟨k + 1, by omega, by go_num, HS, HB1⟩
        case measure => simp [intOf]; omega
    · have HF : Hid (firstI t ls = -1) := firstI_miss (by
        have := HN.out
        rwa [List.take_of_length_le (by have := HL.out; omega)] at this)
      go_wp2
      go_ret
      refine ⟨?_, HB.out⟩
      rw [HF.out]; rfl

set_option maxHeartbeats 1000000 in
theorem containsFuncP (g : Nat) (lb : Array Value) (eg : ∀ args w, (callFunc g args).run Tryz.prog w = .ok (.enter g args) w) (t : Pol → Bool) (ao : Option Addr) (b off n c : Nat) (ls : List Pol) (w : World) (hn : n = ls.length) (hm : n ≤ 1000) (ht : Pols w ao b off ls)
    (hp : ∀ (W : World) (s : Pol) (v : Value), s ∈ ls → ReadersAt W v s.2 → Below w.heap.size w W → Calls Tryz.prog g (#[.agg #[.string s.1, v]] ++ lb) W fun e w' => e = .returned (.bool (t s)) ∧ Below W.heap.size W w') :
    Calls Tryz.prog 131 #[.slice ao n c, .func (.func g) #[] lb] w fun e w' => e = .returned (.bool (ls.any t)) ∧ Below w.heap.size w w' := by
  rw [← firstI_geq]
  have HI := indexFuncP g lb eg t ao b off n c ls w hn hm ht hp
  clear hm hn ht hp eg
  obtain ⟨p, hp⟩ : ∃ p, p = firstI t ls := ⟨_, rfl⟩
  rw [← hp] at HI ⊢
  have HK : Hid (Calls Tryz.prog 157 #[.slice ao n c, .func (.func g) #[] lb] w fun e w' => e = .returned (.int .i64 p) ∧ Below w.heap.size w w') := HI
  clear HI hp
  go_enter Tryz.func131, Tryz.ntmps131
  go_wp2_with fail
  refine HK.out.mono ?_
  rintro e w1 ⟨rfl, hb1⟩
  go_wp2
  go_ret
  exact ⟨rfl, hb1⟩
end Go.Proofs.YtcdeicfegfedfaaGreatDoor

namespace Go.Proofs.YtcdeicfegfedfaaGreatDoor
end Go.Proofs.YtcdeicfegfedfaaGreatDoor
