/- Pairs of strings as keys of a map. Rows of policies: an owner and a slice of readers each. slices.ContainsFunc at strings and at policies, with whatever test. Contracts of label's order: acts, lets, covers, covered. -/
import Derived.Test.YtpbknhhjfhpkmaaGreatDoorChecked
import Derived.Test.YtpbknhhjfhpkmaaGreatDoorLabE
import Derived.Maps.Own
import Derived.Maps.OwnOps
import Derived.Maps.OwnSet
import Derived.Maps.Views
import Derived.DeepKeys4
import Derived.WalkKit
import Derived.ProofKit
import Derived.Test.YtpbknhhjfhpkmaaGreatDoorCStr
import Derived.Test.YtpbknhhjfhpkmaaGreatDoorGaLab
import Derived.Test.YtpbknhhjfhpkmaaGreatDoorGrow
import Derived.Shelf.Abstract
namespace Go.Proofs.YtpbknhhjfhpkmaaGreatDoor
open Go.RowKit Go.Maps

theorem laidOutK : laidOutB Tryz.prog = true := by kernel_rfl
theorem rowK : (115 : TypeId) < Tryz.prog.types.size := of_decide_eq_true (by kernel_rfl)
theorem wideK : (match Tryz.prog.underlying 115 with | some (.array _ _) | some (.struct _) => true | _ => false) = true := by kernel_rfl
set_option maxRecDepth 100000 in
theorem lawP : Keyed Tryz.prog 115 := Keyed.of_law (deep_law_laid laidOutK (m := 2) (by omega) rowK (by kernel_rfl) wideK)
theorem keyTypeK : Tryz.prog.keyType 115 = true := by kernel_rfl
theorem cellsK : Tryz.prog.cellsOf 115 = 2 := by kernel_rfl
theorem cellsK1 : Tryz.prog.cellsOf 9 = 1 := by kernel_rfl
theorem zeroU (w : World) : (zeroValue 158).run Tryz.prog w = .ok (.agg #[]) w := by kernel_rfl

def pairKey (a b : ByteArray) : Lit := .string (keyBytes [.string a.data.toList, .string b.data.toList])
theorem pairKey_of {a b : ByteArray} (ha : a.size ≤ maxLen) (hb : b.size ≤ maxLen) : keyOf Tryz.prog 115 (.agg #[.string a, .string b]) = some (pairKey a b) := by
  obtain ⟨m, hm⟩ := Nat.exists_eq_succ_of_ne_zero (n := Tryz.prog.types.size) (fun h => absurd (h ▸ rowK) (Nat.not_lt_zero _))
  have e1 : Tryz.prog.keyLits (Tryz.prog.types.size + 1) 115 [.string a, .string b] = some [.string a.data.toList, .string b.data.toList] := by
    rw [hm]
    simp [Program.keyLits, Tryz.underlying115, Tryz.underlying9, cellsK, cellsK1, List.range, List.range.loop, ha, hb]
  have e2 : (Value.agg #[.string a, .string b]).formed Tryz.prog 115 = true := by
    simp [Value.formed, Tryz.underlying115, cellsK]
  have e3 : (Value.agg #[.string a, .string b]).cells.toList = [.string a, .string b] := rfl
  unfold keyOf
  rw [Tryz.underlying115]
  simp only [keyTypeK, e2, e3, e1, Bool.and_self, if_true, Option.map_some]
  rfl
theorem pairKey_ne {a b a' b' : ByteArray} (ha : a.size ≤ maxLen) (hb : b.size ≤ maxLen) (ha' : a'.size ≤ maxLen) (hb' : b'.size ≤ maxLen) (h : (a, b) ≠ (a', b')) : pairKey a b ≠ pairKey a' b' := by
  intro e
  have h1 := pairKey_of ha hb
  have h2 := pairKey_of ha' hb'
  rw [e] at h1
  have := lawP.inj h1 h2
  injection this with this
  simp at this
  exact h (by rw [this.1, this.2])
theorem pairKey_lit (a b : ByteArray) : WideAt.IsKeyLit (pairKey a b) := trivial
/- The map has just the pairs of which T says so. -/
def HasJust (D : DataW Unit) (T : ByteArray → ByteArray → Bool) : Prop := ∀ a b : ByteArray, a.size ≤ maxLen → b.size ≤ maxLen → Maps.has D (pairKey a b) = T a b
theorem hasJust_nil : HasJust (.map []) (fun _ _ => false) := fun _ _ _ _ => rfl
theorem hasJust_put {D : DataW Unit} {T : ByteArray → ByteArray → Bool} (hD : IsMap D) (h : HasJust D T) {a b : ByteArray} (ha : a.size ≤ maxLen) (hb : b.size ≤ maxLen) (d : DataW Unit) : HasJust (D.put (pairKey a b) d) (fun x y => T x y || decide ((x, y) = (a, b))) := by
  intro x y hx hy
  by_cases e : (x, y) = (a, b)
  · injection e with e1 e2
    subst e1 e2
    rw [has_put_same hD (pairKey_lit _ _)]
    simp
  · rw [has_put_other (pairKey_ne hx hy ha hb e), h x y hx hy]
    simp [e]
theorem HasJust.congr {D : DataW Unit} {T T' : ByteArray → ByteArray → Bool} (h : HasJust D T) (e : ∀ a b, T a b = T' a b) : HasJust D T' := fun a b ha hb => (h a b ha hb).trans (e a b)
/- A block is such a map. -/
def Ord (w : World) (B : Nat) (T : ByteArray → ByteArray → Bool) : Prop := ∃ n D, w.ownsMap Tryz.prog 115 (unitElem (H := Unit)) B n D ∧ HasJust D T
theorem ownsMap_lt {w : World} {B n : Nat} {D : DataW Unit} (h : w.ownsMap Tryz.prog 115 (unitElem (H := Unit)) B n D) : B < w.heap.size := by
  obtain ⟨es, clock, hb, _⟩ := h
  exact lt_of_block hb
theorem Ord.later {w w' : World} {B : Nat} {T : ByteArray → ByteArray → Bool} (h : Ord w B T) (hb : Below w.heap.size w w') : Ord w' B T := by
  obtain ⟨n, D, h1, h2⟩ := h
  exact ⟨n, D, h1.kept (row := none) ⟨hb.os, hb.tape, hb.output, hb.size, fun j hj _ => hb.block j hj⟩ (by simp), h2⟩
theorem Ord.lt {w : World} {B : Nat} {T : ByteArray → ByteArray → Bool} (h : Ord w B T) : B < w.heap.size := by
  obtain ⟨n, D, h1, _⟩ := h
  exact ownsMap_lt h1
end Go.Proofs.YtpbknhhjfhpkmaaGreatDoor

namespace Go.Proofs.YtpbknhhjfhpkmaaGreatDoor
open Go.RowKit

/- A policy's readers lie somewhere. -/
def ReadersAt (w : World) (v : Value) (rs : List ByteArray) : Prop := ∃ ro rb roff rc, v = .slice ro rs.length rc ∧ rs.length ≤ rc ∧ rc ≤ maxLen ∧ Strs w ro rb roff rs
theorem ReadersAt.later {w w' : World} {v : Value} {rs : List ByteArray} (h : ReadersAt w v rs) (hb : Below w.heap.size w w') : ReadersAt w' v rs := by
  obtain ⟨ro, rb, roff, rc, h1, h2, h3, h4⟩ := h
  exact ⟨ro, rb, roff, rc, h1, h2, h3, h4.later hb⟩
structure Pols (w : World) (ao : Option Addr) (b off : Nat) (x : List (ByteArray × List ByteArray)) : Prop where
  adr : 0 < x.length → ao = some ⟨b, off, none⟩
  c0 : ∀ k (h : k < x.length), w.cell? ⟨b, off + k * 2, none⟩ = some (.string x[k].1)
  c1 : ∀ k (h : k < x.length), ∃ v, w.cell? ⟨b, off + k * 2 + 1, none⟩ = some v ∧ ReadersAt w v x[k].2
  lt : 0 < x.length → b < w.heap.size
theorem Pols.later {w w' : World} {ao : Option Addr} {b off : Nat} {x : List (ByteArray × List ByteArray)} (h : Pols w ao b off x) (hb : Below w.heap.size w w') : Pols w' ao b off x := by
  refine ⟨h.adr, fun k hk => (hb.cell (p := ⟨b, off + k * 2, none⟩) (h.lt (by omega))).trans (h.c0 k hk), fun k hk => ?_, fun hn => Nat.lt_of_lt_of_le (h.lt hn) hb.size⟩
  obtain ⟨v, h1, h2⟩ := h.c1 k hk
  exact ⟨v, (hb.cell (p := ⟨b, off + k * 2 + 1, none⟩) (h.lt (by omega))).trans h1, h2.later hb⟩
end Go.Proofs.YtpbknhhjfhpkmaaGreatDoor

namespace Go.Proofs.YtpbknhhjfhpkmaaGreatDoor
open Go.RowKit

/- The first place at which a test says yes. -/
def firstI {α : Type} (t : α → Bool) (l : List α) : Int := if l.any t = true then (l.findIdx t : Int) else -1
theorem firstI_geq {α : Type} (t : α → Bool) (l : List α) : decide (0 ≤ firstI t l) = l.any t := by
  unfold firstI
  cases h : l.any t <;> simp
theorem firstI_hit {α : Type} {t : α → Bool} {l : List α} {k : Nat} (hk : k < l.length) (hn : ∀ s ∈ l.take k, t s = false) (h : t l[k] = true) : firstI t l = (k : Int) := by
  have ha : l.any t = true := List.any_eq_true.2 ⟨_, List.getElem_mem hk, h⟩
  have e : l.findIdx t = k := by
    rw [List.findIdx_eq hk]
    refine ⟨h, fun j hj => ?_⟩
    have := hn l[j] (by rw [List.mem_take_iff_getElem]; exact ⟨j, by omega, rfl⟩)
    simpa using this
  simp [firstI, ha, e]
theorem firstI_miss {α : Type} {t : α → Bool} {l : List α} (hn : ∀ s ∈ l, t s = false) : firstI t l = -1 := by
  have ha : l.any t = false := List.any_eq_false.2 fun x hx => by simp [hn x hx]
  simp [firstI, ha]
theorem none_step {α : Type} {t : α → Bool} {l : List α} {k : Nat} (hk : k < l.length) (hn : ∀ s ∈ l.take k, t s = false) (h : t l[k] = false) : ∀ s ∈ l.take (k + 1), t s = false := by
  intro s hs
  rw [List.take_succ_eq_append_getElem hk, List.mem_append, List.mem_singleton] at hs
  rcases hs with hs | hs
  · exact hn s hs
  · rw [hs]; exact h

set_option maxHeartbeats 1000000 in
theorem indexFuncS (g : Nat) (lb : Array Value) (eg : ∀ args w, (callFunc g args).run Tryz.prog w = .ok (.enter g args) w) (t : ByteArray → Bool) (ao : Option Addr) (b off n c : Nat) (ls : List ByteArray) (w : World) (hn : n = ls.length) (hm : n ≤ 1000) (ht : Strs w ao b off ls)
    (hp : ∀ (W : World) (s : ByteArray), s ∈ ls → Below w.heap.size w W → Calls Tryz.prog g (#[.string s] ++ lb) W fun e w' => e = .returned (.bool (t s)) ∧ Below W.heap.size W w') :
    Calls Tryz.prog 132 #[.slice ao n c, .func (.func g) #[] lb] w fun e w' => e = .returned (.int .i64 (firstI t ls)) ∧ Below w.heap.size w w' := by
  have HL : Hid (n = ls.length) := hn
  have HP : Hid (∀ (W : World) (s : ByteArray), s ∈ ls → Below w.heap.size w W → Calls Tryz.prog g (#[.string s] ++ lb) W fun e w' => e = .returned (.bool (t s)) ∧ Below W.heap.size W w') := hp
  clear hn hp
  go_enter Tryz.func132, Tryz.ntmps132
  go_wp2
  go_loopw [8] (fun i wr => ∃ k : Nat, k ≤ n ∧ i = .int .i64 k ∧ Hid (∀ s ∈ ls.take k, t s = false) ∧ Hid (Below w.heap.size w wr)) (fun i _ => n - (intOf i).toNat)
  case atStart => exact ⟨0, Nat.zero_le _, rfl, by show ∀ s ∈ _, _; simp, Below.refl _ _⟩
  case round =>
    obtain ⟨k, hk, rfl, HN, HB⟩ := hrel
    by_cases hlt : k < n
    · have hl0 := HL.out
      have hao := ht.adr (by omega)
      have hkl : k < ls.length := by omega
      have f0 := (ht.later HB.out).cell k hkl
      obtain ⟨x, hx⟩ : ∃ x, x = ls[k] := ⟨_, rfl⟩
      have hcall := HP.out wr x (hx ▸ List.getElem_mem hkl) HB.out
      have HX : Hid (x = ls[k]) := hx
      rw [← hx] at f0
      clear hl0 hx
      subst hao
      cases hq : t x with
      | true =>
        rw [hq] at hcall
        have HF : Hid (firstI t ls = (k : Int)) := firstI_hit hkl HN.out (by rw [← HX.out]; exact hq)
        clear hq
        go_wp2_with fail
        refine hcall.mono ?_
        rintro e w1 ⟨rfl, hb1⟩
        go_wp2
        go_ret
        refine ⟨?_, HB.out.trans (hb1.mono HB.out.size)⟩
        rw [HF.out]; rfl
      | false =>
        rw [hq] at hcall
        have HS : Hid (∀ s ∈ ls.take (k + 1), t s = false) := none_step hkl HN.out (by rw [← HX.out]; exact hq)
        clear hq
        go_wp2_with fail
        refine hcall.mono ?_
        rintro e w1 ⟨rfl, hb1⟩
        have HB1 : Hid (Below w.heap.size w w1) := HB.out.trans (hb1.mono HB.out.size)
        clear hb1
        go_wp2
        go_roundw
        case rel => exact ⟨k + 1, by omega, by go_num, HS, HB1⟩
        case measure => simp [intOf]; omega
    · have HF : Hid (firstI t ls = -1) := firstI_miss (by
        have := HN.out
        rwa [List.take_of_length_le (by have := HL.out; omega)] at this)
      go_wp2
      go_ret
      refine ⟨?_, HB.out⟩
      rw [HF.out]; rfl

set_option maxHeartbeats 1000000 in
theorem containsFuncS (g : Nat) (lb : Array Value) (eg : ∀ args w, (callFunc g args).run Tryz.prog w = .ok (.enter g args) w) (t : ByteArray → Bool) (ao : Option Addr) (b off n c : Nat) (ls : List ByteArray) (w : World) (hn : n = ls.length) (hm : n ≤ 1000) (ht : Strs w ao b off ls)
    (hp : ∀ (W : World) (s : ByteArray), s ∈ ls → Below w.heap.size w W → Calls Tryz.prog g (#[.string s] ++ lb) W fun e w' => e = .returned (.bool (t s)) ∧ Below W.heap.size W w') :
    Calls Tryz.prog 84 #[.slice ao n c, .func (.func g) #[] lb] w fun e w' => e = .returned (.bool (ls.any t)) ∧ Below w.heap.size w w' := by
  rw [← firstI_geq]
  have HI := indexFuncS g lb eg t ao b off n c ls w hn hm ht hp
  clear hm hn ht hp eg
  obtain ⟨p, hp⟩ : ∃ p, p = firstI t ls := ⟨_, rfl⟩
  rw [← hp] at HI ⊢
  have HK : Hid (Calls Tryz.prog 132 #[.slice ao n c, .func (.func g) #[] lb] w fun e w' => e = .returned (.int .i64 p) ∧ Below w.heap.size w w') := HI
  clear HI hp
  go_enter Tryz.func84, Tryz.ntmps84
  go_wp2_with fail
  refine HK.out.mono ?_
  rintro e w1 ⟨rfl, hb1⟩
  go_wp2
  go_ret
  exact ⟨rfl, hb1⟩

set_option maxHeartbeats 1000000 in
theorem indexFuncP (g : Nat) (lb : Array Value) (eg : ∀ args w, (callFunc g args).run Tryz.prog w = .ok (.enter g args) w) (t : Pol → Bool) (ao : Option Addr) (b off n c : Nat) (ls : List Pol) (w : World) (hn : n = ls.length) (hm : n ≤ 1000) (ht : Pols w ao b off ls)
    (hp : ∀ (W : World) (s : Pol) (v : Value), s ∈ ls → ReadersAt W v s.2 → Below w.heap.size w W → Calls Tryz.prog g (#[.agg #[.string s.1, v]] ++ lb) W fun e w' => e = .returned (.bool (t s)) ∧ Below W.heap.size W w') :
    Calls Tryz.prog 144 #[.slice ao n c, .func (.func g) #[] lb] w fun e w' => e = .returned (.int .i64 (firstI t ls)) ∧ Below w.heap.size w w' := by
  have HL : Hid (n = ls.length) := hn
  have HP : Hid (∀ (W : World) (s : Pol) (v : Value), s ∈ ls → ReadersAt W v s.2 → Below w.heap.size w W → Calls Tryz.prog g (#[.agg #[.string s.1, v]] ++ lb) W fun e w' => e = .returned (.bool (t s)) ∧ Below W.heap.size W w') := hp
  clear hn hp
  go_enter Tryz.func144, Tryz.ntmps144
  go_wp2
  go_loopw [8] (fun i wr => ∃ k : Nat, k ≤ n ∧ i = .int .i64 k ∧ Hid (∀ s ∈ ls.take k, t s = false) ∧ Hid (Below w.heap.size w wr)) (fun i _ => n - (intOf i).toNat)
  case atStart => exact ⟨0, Nat.zero_le _, rfl, by show ∀ s ∈ _, _; simp, Below.refl _ _⟩
  case round =>
    obtain ⟨k, hk, rfl, HN, HB⟩ := hrel
    by_cases hlt : k < n
    · have hl0 := HL.out
      have hao := ht.adr (by omega)
      have hkl : k < ls.length := by omega
      have f0 := (ht.later HB.out).c0 k hkl
      obtain ⟨v, f1, hv⟩ := (ht.later HB.out).c1 k hkl
      obtain ⟨x, hx⟩ : ∃ x, x = ls[k] := ⟨_, rfl⟩
      rw [← hx] at f0 hv
      have hcall := HP.out wr x v (hx ▸ List.getElem_mem hkl) hv HB.out
      have HX : Hid (x = ls[k]) := hx
      clear hl0 hx hv
      subst hao
      cases hq : t x with
      | true =>
        rw [hq] at hcall
        have HF : Hid (firstI t ls = (k : Int)) := firstI_hit hkl HN.out (by rw [← HX.out]; exact hq)
        clear hq
        go_wp2_with fail
        refine hcall.mono ?_
        rintro e w1 ⟨rfl, hb1⟩
        go_wp2
        go_ret
        refine ⟨?_, HB.out.trans (hb1.mono HB.out.size)⟩
        rw [HF.out]; rfl
      | false =>
        rw [hq] at hcall
        have HS : Hid (∀ s ∈ ls.take (k + 1), t s = false) := none_step hkl HN.out (by rw [← HX.out]; exact hq)
        clear hq
        go_wp2_with fail
        refine hcall.mono ?_
        rintro e w1 ⟨rfl, hb1⟩
        have HB1 : Hid (Below w.heap.size w w1) := HB.out.trans (hb1.mono HB.out.size)
        clear hb1
        go_wp2
        go_roundw
        case rel => exact ⟨k + 1, by omega, by go_num, HS, HB1⟩
        case measure => simp [intOf]; omega
    · have HF : Hid (firstI t ls = -1) := firstI_miss (by
        have := HN.out
        rwa [List.take_of_length_le (by have := HL.out; omega)] at this)
      go_wp2
      go_ret
      refine ⟨?_, HB.out⟩
      rw [HF.out]; rfl

set_option maxHeartbeats 1000000 in
theorem containsFuncP (g : Nat) (lb : Array Value) (eg : ∀ args w, (callFunc g args).run Tryz.prog w = .ok (.enter g args) w) (t : Pol → Bool) (ao : Option Addr) (b off n c : Nat) (ls : List Pol) (w : World) (hn : n = ls.length) (hm : n ≤ 1000) (ht : Pols w ao b off ls)
    (hp : ∀ (W : World) (s : Pol) (v : Value), s ∈ ls → ReadersAt W v s.2 → Below w.heap.size w W → Calls Tryz.prog g (#[.agg #[.string s.1, v]] ++ lb) W fun e w' => e = .returned (.bool (t s)) ∧ Below W.heap.size W w') :
    Calls Tryz.prog 139 #[.slice ao n c, .func (.func g) #[] lb] w fun e w' => e = .returned (.bool (ls.any t)) ∧ Below w.heap.size w w' := by
  rw [← firstI_geq]
  have HI := indexFuncP g lb eg t ao b off n c ls w hn hm ht hp
  clear hm hn ht hp eg
  obtain ⟨p, hp⟩ : ∃ p, p = firstI t ls := ⟨_, rfl⟩
  rw [← hp] at HI ⊢
  have HK : Hid (Calls Tryz.prog 144 #[.slice ao n c, .func (.func g) #[] lb] w fun e w' => e = .returned (.int .i64 p) ∧ Below w.heap.size w w') := HI
  clear HI hp
  go_enter Tryz.func139, Tryz.ntmps139
  go_wp2_with fail
  refine HK.out.mono ?_
  rintro e w1 ⟨rfl, hb1⟩
  go_wp2
  go_ret
  exact ⟨rfl, hb1⟩
end Go.Proofs.YtpbknhhjfhpkmaaGreatDoor

namespace Go.Proofs.YtpbknhhjfhpkmaaGreatDoor
open Go.RowKit Go.Maps

/- Lengths of a policy's names. -/
structure SzP (p : Pol) : Prop where
  own : p.1.size ≤ maxLen
  few : p.2.length ≤ 1000
  rd : ∀ r ∈ p.2, r.size ≤ maxLen

theorem bcellL {W w1 : World} (hb : Below W.heap.size W w1) : (∀ b o, b < W.heap.size → w1.cell? ⟨b, o, none⟩ = W.cell? ⟨b, o, none⟩) ∧ (∀ b o, b < W.heap.size → w1.frozen? ⟨b, o, none⟩ = W.frozen? ⟨b, o, none⟩) :=
  ⟨fun b o h => hb.cell (p := ⟨b, o, none⟩) h, fun b o h => hb.frozen (p := ⟨b, o, none⟩) h⟩
theorem ReadersAt.fit {w : World} {v : Value} {rs : List ByteArray} (h : ReadersAt w v rs) : ∃ ro rb roff rc, v = .slice ro rs.length rc ∧ Strs w ro rb roff rs := by
  obtain ⟨ro, rb, roff, rc, h1, _, _, h4⟩ := h
  exact ⟨ro, rb, roff, rc, h1, h4⟩

set_option maxHeartbeats 1000000 in
theorem oacts_any (B : Nat) (T : ByteArray → ByteArray → Bool) (a b : ByteArray) (w : World) (h : Ord w B T) (ha : a.size ≤ maxLen) (hb : b.size ≤ maxLen) :
    Calls Tryz.prog 143 #[.map (some B), .string a, .string b] w fun e w' => e = .returned (.bool (T a b)) ∧ Below w.heap.size w w' := by
  obtain ⟨n, D, hown, hj⟩ := h
  have HJ : Hid (Maps.has D (pairKey a b) = T a b) := hj a b ha hb
  have HK : Hid (keyOf Tryz.prog 115 (.agg #[.string a, .string b]) = some (pairKey a b)) := pairKey_of ha hb
  have HO : Hid (w.ownsMap Tryz.prog 115 (unitElem (H := Unit)) B n D) := hown
  obtain ⟨t, ht⟩ : ∃ t, t = T a b := ⟨_, rfl⟩
  rw [← ht]
  have HT : Hid (Maps.has D (pairKey a b) = t) := by rw [ht]; exact HJ
  clear ha hb hj hown HJ ht
  go_enter Tryz.func143, Tryz.ntmps143
  go_wp2_with (at_lookup; refine wpList_lookup_own_unit (H := Unit) _ rfl _ _ 105 rfl 115 158 lawP Tryz.underlying105 (zeroU _) B n D rfl HO.out _ _ rfl HK.out ?_; rw [HT.out])
  go_ret
  exact ⟨rfl, (Below.refl _ _).alloc (Nat.le_refl _) _⟩

theorem actsFor_any (B : Nat) (T : ByteArray → ByteArray → Bool) (ob wb : Nat) (who b : ByteArray) (w : World) (h : Ord w B T) (hw : who.size ≤ maxLen) (hb : b.size ≤ maxLen)
    (c0 : w.cell? ⟨ob, 0, none⟩ = some (.map (some B))) (c1 : w.cell? ⟨wb, 0, none⟩ = some (.string who)) :
    Calls Tryz.prog 187 #[.string b, .pointer (some ⟨ob, 0, none⟩), .pointer (some ⟨wb, 0, none⟩)] w fun e w' => e = .returned (.bool (T who b)) ∧ Below w.heap.size w w' := by
  have HK : Hid (Calls Tryz.prog 143 #[.map (some B), .string who, .string b] w fun e w' => e = .returned (.bool (T who b)) ∧ Below w.heap.size w w') := oacts_any B T who b w h hw hb
  clear h hw hb
  obtain ⟨t, ht⟩ : ∃ t, t = T who b := ⟨_, rfl⟩
  rw [← ht] at HK ⊢
  clear ht
  go_enter Tryz.func187, Tryz.ntmps187
  go_wp2_with fail
  refine HK.out.mono ?_
  rintro e w1 ⟨rfl, hb1⟩
  go_wp2
  go_ret
  exact ⟨rfl, hb1⟩

set_option maxHeartbeats 1000000 in
theorem lets_any (B : Nat) (ls : List ByteArray) (ps : List (ByteArray × ByteArray)) (p : Pol) (v : Value) (who : ByteArray) (w : World) (h : Ord w B (Act.acts ls ps)) (hv : ReadersAt w v p.2) (hz : SzP p) (hw : who.size ≤ maxLen) :
    Calls Tryz.prog 142 #[.map (some B), .agg #[.string p.1, v], .string who] w fun e w' => e = .returned (.bool (Lab.letsB ls ps p who)) ∧ Below w.heap.size w w' := by
  obtain ⟨o, rs⟩ := p
  obtain ⟨wz, hwz⟩ : ∃ wz, wz = ((w.alloc (.cells #[.map (some B)] 105)).alloc (.cells #[.string o, v] 63)).alloc (.cells #[.string who] 9) := ⟨_, rfl⟩
  have hbz : Below w.heap.size w wz := by rw [hwz]; exact (((Below.refl _ _).alloc (Nat.le_refl _) _).alloc (by simp) _).alloc (by simp; omega) _
  have k0 : wz.heap[w.heap.size]? = some (.cells #[.map (some B)] 105 (0, 0)) := by rw [hwz]; exact heap_past_alloc (heap_past_alloc (heap_at_alloc _ _ _ rfl))
  have k1 : wz.heap[w.heap.size + 1]? = some (.cells #[.string o, v] 63 (0, 0)) := by rw [hwz]; exact heap_past_alloc (heap_at_alloc _ _ _ (by simp))
  have k2 : wz.heap[w.heap.size + 1 + 1]? = some (.cells #[.string who] 9 (0, 0)) := by rw [hwz]; exact heap_at_alloc _ _ _ (by simp)
  have hcl : ∀ (W : World) (b : ByteArray), b.size ≤ maxLen → Below wz.heap.size wz W → Calls Tryz.prog 187 #[.string b, .pointer (some ⟨w.heap.size, 0, none⟩), .pointer (some ⟨w.heap.size + 1 + 1, 0, none⟩)] W fun e w' => e = .returned (.bool (Act.acts ls ps who b)) ∧ Below W.heap.size W w' := fun W b hb hW =>
    actsFor_any B (Act.acts ls ps) w.heap.size (w.heap.size + 1 + 1) who b W ((h.later hbz).later hW) hw hb
      (by have e := (hW.block _ (lt_of_block k0)).trans k0; simp [World.cell?, e]) (by have e := (hW.block _ (lt_of_block k2)).trans k2; simp [World.cell?, e])
  have HC1 : Hid (Calls Tryz.prog 187 #[.string o, .pointer (some ⟨w.heap.size, 0, none⟩), .pointer (some ⟨w.heap.size + 1 + 1, 0, none⟩)] wz fun e w' => e = .returned (.bool (Act.acts ls ps who o)) ∧ Below wz.heap.size wz w') := hcl wz o hz.own (Below.refl _ _)
  have HC2 : Hid (∀ W, Below wz.heap.size wz W → Calls Tryz.prog 84 #[v, .func (.func 187) #[] #[.pointer (some ⟨w.heap.size, 0, none⟩), .pointer (some ⟨w.heap.size + 1 + 1, 0, none⟩)]] W fun e w' => e = .returned (.bool (rs.any fun r => Act.acts ls ps who r)) ∧ Below W.heap.size W w') := by
    intro W hW
    obtain ⟨ro, rb, roff, rc, hv1, hv4⟩ := (hv.later (hbz.trans (hW.mono hbz.size))).fit
    subst hv1
    exact containsFuncS _ _ (enters_of Tryz.func187 (by kernel_rfl) rfl) (fun r => Act.acts ls ps who r) ro rb roff _ rc rs W rfl hz.few hv4 (fun W' s hs hW' => hcl W' s (hz.rd s hs) (hW.trans (hW'.mono hW.size)))
  have HK1 : Hid (∀ W, Below wz.heap.size wz W → W.heap[w.heap.size + 1]? = some (.cells #[.string o, v] 63 (0, 0))) := fun W hW => (hW.block _ (lt_of_block k1)).trans k1
  have hmf : ∀ (fn : Fn) (first cap : Array Value) (w : World), (Instr.makeFunc fn first cap).run Tryz.prog w = .ok (.func fn first cap) w := fun _ _ _ _ => rfl
  have HBZ : Hid (Below w.heap.size w wz) := hbz
  have HE : Hid (Lab.letsB ls ps (o, rs) who = (Act.acts ls ps who o || rs.any fun r => Act.acts ls ps who r)) := rfl
  rw [HE.out]
  obtain ⟨t1, ht1⟩ : ∃ t1, t1 = Act.acts ls ps who o := ⟨_, rfl⟩
  obtain ⟨t2, ht2⟩ : ∃ t2, t2 = rs.any fun r => Act.acts ls ps who r := ⟨_, rfl⟩
  rw [← ht1] at HC1 ⊢
  rw [← ht2] at HC2 ⊢
  have HWZ : Hid (wz = ((w.alloc (.cells #[.map (some B)] 105)).alloc (.cells #[.string o, v] 63)).alloc (.cells #[.string who] 9)) := hwz
  clear ht1 ht2 hcl k0 k1 k2 hbz hz hv hw h HE hwz
  go_enter Tryz.func142, Tryz.ntmps142
  go_wp2_with fail
  rw [← HWZ.out]
  refine HC1.out.mono ?_
  rintro e w1 ⟨rfl, hb1⟩
  have k1 := HK1.out w1 hb1
  have f1 : w1.cell? ⟨w.heap.size + 1, 1, none⟩ = some v := by simp [World.cell?, k1]
  have hc3 := HC2.out w1 hb1
  have HB1 : Hid (Below w.heap.size w w1) := HBZ.out.trans (hb1.mono HBZ.out.size)
  clear k1 hb1 HK1 HC2 HC1
  cases t1 with
  | true =>
    go_wp2
    go_ret
    exact ⟨rfl, HB1.out⟩
  | false =>
    go_wp2_with fail
    refine hc3.mono ?_
    rintro e w2 ⟨rfl, hb2⟩
    go_wp2
    go_ret
    exact ⟨by simp, HB1.out.trans (hb2.mono HB1.out.size)⟩

theorem shut_any (B : Nat) (ls : List ByteArray) (ps : List (ByteArray × ByteArray)) (ob pb : Nat) (p : Pol) (v : Value) (r : ByteArray) (w : World) (h : Ord w B (Act.acts ls ps)) (hv : ReadersAt w v p.2) (hz : SzP p) (hr : r.size ≤ maxLen)
    (c0 : w.cell? ⟨ob, 0, none⟩ = some (.map (some B))) (c1 : w.cell? ⟨pb, 0, none⟩ = some (.string p.1)) (c2 : w.cell? ⟨pb, 1, none⟩ = some v) :
    Calls Tryz.prog 141 #[.string r, .pointer (some ⟨ob, 0, none⟩), .pointer (some ⟨pb, 0, none⟩)] w fun e w' => e = .returned (.bool (!Lab.letsB ls ps p r)) ∧ Below w.heap.size w w' := by
  have HK : Hid (Calls Tryz.prog 142 #[.map (some B), .agg #[.string p.1, v], .string r] w fun e w' => e = .returned (.bool (Lab.letsB ls ps p r)) ∧ Below w.heap.size w w') := lets_any B ls ps p v r w h hv hz hr
  clear h hv hz hr
  obtain ⟨t, ht⟩ : ∃ t, t = Lab.letsB ls ps p r := ⟨_, rfl⟩
  rw [← ht] at HK ⊢
  clear ht
  go_enter Tryz.func141, Tryz.ntmps141
  go_wp2_with fail
  refine HK.out.mono ?_
  rintro e w1 ⟨rfl, hb1⟩
  go_wp2
  go_ret
  exact ⟨rfl, hb1⟩

set_option maxHeartbeats 1000000 in
theorem covers_any (B : Nat) (ls : List ByteArray) (ps : List (ByteArray × ByteArray)) (q p : Pol) (u v : Value) (w : World) (h : Ord w B (Act.acts ls ps)) (hu : ReadersAt w u q.2) (hv : ReadersAt w v p.2) (hq : SzP q) (hz : SzP p) :
    Calls Tryz.prog 95 #[.map (some B), .agg #[.string q.1, u], .agg #[.string p.1, v]] w fun e w' => e = .returned (.bool (Lab.coversB ls ps q p)) ∧ Below w.heap.size w w' := by
  obtain ⟨o, rs⟩ := q
  obtain ⟨wz, hwz⟩ : ∃ wz, wz = ((w.alloc (.cells #[.map (some B)] 105)).alloc (.cells #[.string o, u] 63)).alloc (.cells #[.string p.1, v] 63) := ⟨_, rfl⟩
  have hbz : Below w.heap.size w wz := by rw [hwz]; exact (((Below.refl _ _).alloc (Nat.le_refl _) _).alloc (by simp) _).alloc (by simp; omega) _
  have k0 : wz.heap[w.heap.size]? = some (.cells #[.map (some B)] 105 (0, 0)) := by rw [hwz]; exact heap_past_alloc (heap_past_alloc (heap_at_alloc _ _ _ rfl))
  have k1 : wz.heap[w.heap.size + 1]? = some (.cells #[.string o, u] 63 (0, 0)) := by rw [hwz]; exact heap_past_alloc (heap_at_alloc _ _ _ (by simp))
  have k2 : wz.heap[w.heap.size + 1 + 1]? = some (.cells #[.string p.1, v] 63 (0, 0)) := by rw [hwz]; exact heap_at_alloc _ _ _ (by simp)
  have hcl : ∀ (W : World) (r : ByteArray), r.size ≤ maxLen → Below wz.heap.size wz W → Calls Tryz.prog 141 #[.string r, .pointer (some ⟨w.heap.size, 0, none⟩), .pointer (some ⟨w.heap.size + 1 + 1, 0, none⟩)] W fun e w' => e = .returned (.bool (!Lab.letsB ls ps p r)) ∧ Below W.heap.size W w' := fun W r hr hW =>
    shut_any B ls ps w.heap.size (w.heap.size + 1 + 1) p v r W ((h.later hbz).later hW) (hv.later (hbz.trans (hW.mono hbz.size))) hz hr
      (by have e := (hW.block _ (lt_of_block k0)).trans k0; simp [World.cell?, e]) (by have e := (hW.block _ (lt_of_block k2)).trans k2; simp [World.cell?, e]) (by have e := (hW.block _ (lt_of_block k2)).trans k2; simp [World.cell?, e])
  have HC1 : Hid (Calls Tryz.prog 143 #[.map (some B), .string o, .string p.1] wz fun e w' => e = .returned (.bool (Act.acts ls ps o p.1)) ∧ Below wz.heap.size wz w') := oacts_any B _ o p.1 wz (h.later hbz) hq.own hz.own
  have HC2 : Hid (∀ W, Below wz.heap.size wz W → Calls Tryz.prog 84 #[u, .func (.func 141) #[] #[.pointer (some ⟨w.heap.size, 0, none⟩), .pointer (some ⟨w.heap.size + 1 + 1, 0, none⟩)]] W fun e w' => e = .returned (.bool (rs.any fun r => !Lab.letsB ls ps p r)) ∧ Below W.heap.size W w') := by
    intro W hW
    obtain ⟨ro, rb, roff, rc, hv1, hv4⟩ := (hu.later (hbz.trans (hW.mono hbz.size))).fit
    subst hv1
    exact containsFuncS _ _ (enters_of Tryz.func141 (by kernel_rfl) rfl) (fun r => !Lab.letsB ls ps p r) ro rb roff _ rc rs W rfl hq.few hv4 (fun W' s hs hW' => hcl W' s (hq.rd s hs) (hW.trans (hW'.mono hW.size)))
  have HK1 : Hid (∀ W, Below wz.heap.size wz W → W.heap[w.heap.size + 1]? = some (.cells #[.string o, u] 63 (0, 0))) := fun W hW => (hW.block _ (lt_of_block k1)).trans k1
  have hmf : ∀ (fn : Fn) (first cap : Array Value) (w : World), (Instr.makeFunc fn first cap).run Tryz.prog w = .ok (.func fn first cap) w := fun _ _ _ _ => rfl
  have HBZ : Hid (Below w.heap.size w wz) := hbz
  have HE : Hid (Lab.coversB ls ps (o, rs) p = (Act.acts ls ps o p.1 && !(rs.any fun r => !Lab.letsB ls ps p r))) := rfl
  rw [HE.out]
  obtain ⟨t1, ht1⟩ : ∃ t1, t1 = Act.acts ls ps o p.1 := ⟨_, rfl⟩
  obtain ⟨t2, ht2⟩ : ∃ t2, t2 = rs.any fun r => !Lab.letsB ls ps p r := ⟨_, rfl⟩
  rw [← ht1] at HC1 ⊢
  rw [← ht2] at HC2 ⊢
  have HWZ : Hid (wz = ((w.alloc (.cells #[.map (some B)] 105)).alloc (.cells #[.string o, u] 63)).alloc (.cells #[.string p.1, v] 63)) := hwz
  clear ht1 ht2 hcl k0 k1 k2 hbz hz hv hq hu h HE hwz
  go_enter Tryz.func95, Tryz.ntmps95
  go_wp2_with fail
  rw [← HWZ.out]
  refine HC1.out.mono ?_
  rintro e w1 ⟨rfl, hb1⟩
  have k1 := HK1.out w1 hb1
  have f1 : w1.cell? ⟨w.heap.size + 1, 1, none⟩ = some u := by simp [World.cell?, k1]
  have hc3 := HC2.out w1 hb1
  have HB1 : Hid (Below w.heap.size w w1) := HBZ.out.trans (hb1.mono HBZ.out.size)
  clear k1 hb1 HK1 HC2 HC1
  cases t1 with
  | false =>
    go_wp2
    go_ret
    exact ⟨rfl, HB1.out⟩
  | true =>
    go_wp2_with fail
    refine hc3.mono ?_
    rintro e w2 ⟨rfl, hb2⟩
    go_wp2
    go_ret
    exact ⟨by simp, HB1.out.trans (hb2.mono HB1.out.size)⟩

theorem coversBy_any (B : Nat) (ls : List ByteArray) (ps : List (ByteArray × ByteArray)) (ob pb : Nat) (q p : Pol) (u v : Value) (w : World) (h : Ord w B (Act.acts ls ps)) (hu : ReadersAt w u q.2) (hv : ReadersAt w v p.2) (hq : SzP q) (hz : SzP p)
    (c0 : w.cell? ⟨ob, 0, none⟩ = some (.map (some B))) (c1 : w.cell? ⟨pb, 0, none⟩ = some (.string p.1)) (c2 : w.cell? ⟨pb, 1, none⟩ = some v) :
    Calls Tryz.prog 140 #[.agg #[.string q.1, u], .pointer (some ⟨ob, 0, none⟩), .pointer (some ⟨pb, 0, none⟩)] w fun e w' => e = .returned (.bool (Lab.coversB ls ps q p)) ∧ Below w.heap.size w w' := by
  have hb0 : Below w.heap.size w (w.alloc (.cells #[.string q.1, u] 63)) := (Below.refl _ _).alloc (Nat.le_refl _) _
  have l0 : ob < w.heap.size := World.block_lt_of_cell? w _ c0
  have l1 : pb < w.heap.size := World.block_lt_of_cell? w _ c1
  have HK : Hid (Calls Tryz.prog 95 #[.map (some B), .agg #[.string q.1, u], .agg #[.string p.1, v]] (w.alloc (.cells #[.string q.1, u] 63)) fun e w' => e = .returned (.bool (Lab.coversB ls ps q p)) ∧ Below (w.alloc (.cells #[.string q.1, u] 63)).heap.size (w.alloc (.cells #[.string q.1, u] 63)) w') := covers_any B ls ps q p u v _ (h.later hb0) (hu.later hb0) (hv.later hb0) hq hz
  have HB : Hid (Below w.heap.size w (w.alloc (.cells #[.string q.1, u] 63))) := hb0
  clear h hu hv hq hz hb0
  obtain ⟨t, ht⟩ : ∃ t, t = Lab.coversB ls ps q p := ⟨_, rfl⟩
  rw [← ht] at HK ⊢
  clear ht
  go_enter Tryz.func140, Tryz.ntmps140
  go_wp2_with fail
  refine HK.out.mono ?_
  rintro e w1 ⟨rfl, hb1⟩
  go_wp2
  go_ret
  exact ⟨rfl, HB.out.trans (hb1.mono (by simp))⟩

set_option maxHeartbeats 1000000 in
theorem covered_any (B : Nat) (ls : List ByteArray) (ps : List (ByteArray × ByteArray)) (p : Pol) (v : Value) (ao : Option Addr) (b off n c : Nat) (x : List Pol) (w : World) (h : Ord w B (Act.acts ls ps)) (hv : ReadersAt w v p.2) (hz : SzP p) (hn : n = x.length) (hm : n ≤ 1000) (hx : Pols w ao b off x) (hxz : ∀ q ∈ x, SzP q) :
    Calls Tryz.prog 93 #[.map (some B), .agg #[.string p.1, v], .slice ao n c] w fun e w' => e = .returned (.bool (Lab.coveredB ls ps x p)) ∧ Below w.heap.size w w' := by
  obtain ⟨wz, hwz⟩ : ∃ wz, wz = (w.alloc (.cells #[.map (some B)] 105)).alloc (.cells #[.string p.1, v] 63) := ⟨_, rfl⟩
  have hbz : Below w.heap.size w wz := by rw [hwz]; exact ((Below.refl _ _).alloc (Nat.le_refl _) _).alloc (by simp) _
  have k0 : wz.heap[w.heap.size]? = some (.cells #[.map (some B)] 105 (0, 0)) := by rw [hwz]; exact heap_past_alloc (heap_at_alloc _ _ _ rfl)
  have k1 : wz.heap[w.heap.size + 1]? = some (.cells #[.string p.1, v] 63 (0, 0)) := by rw [hwz]; exact heap_at_alloc _ _ _ (by simp)
  have HK : Hid (Calls Tryz.prog 139 #[.slice ao n c, .func (.func 140) #[] #[.pointer (some ⟨w.heap.size, 0, none⟩), .pointer (some ⟨w.heap.size + 1, 0, none⟩)]] wz fun e w' => e = .returned (.bool (x.any fun q => Lab.coversB ls ps q p)) ∧ Below wz.heap.size wz w') :=
    containsFuncP _ _ (enters_of Tryz.func140 (by kernel_rfl) rfl) (fun q => Lab.coversB ls ps q p) ao b off n c x wz hn hm (hx.later hbz) (fun W q u hq hu hW =>
      coversBy_any B ls ps w.heap.size (w.heap.size + 1) q p u v W ((h.later hbz).later hW) hu (hv.later (hbz.trans (hW.mono hbz.size))) (hxz q hq) hz
        (by have e := (hW.block _ (lt_of_block k0)).trans k0; simp [World.cell?, e]) (by have e := (hW.block _ (lt_of_block k1)).trans k1; simp [World.cell?, e]) (by have e := (hW.block _ (lt_of_block k1)).trans k1; simp [World.cell?, e]))
  have hmf : ∀ (fn : Fn) (first cap : Array Value) (w : World), (Instr.makeFunc fn first cap).run Tryz.prog w = .ok (.func fn first cap) w := fun _ _ _ _ => rfl
  have HBZ : Hid (Below w.heap.size w wz) := hbz
  have HE : Hid (Lab.coveredB ls ps x p = x.any fun q => Lab.coversB ls ps q p) := rfl
  rw [HE.out]
  obtain ⟨t, ht⟩ : ∃ t, t = x.any fun q => Lab.coversB ls ps q p := ⟨_, rfl⟩
  rw [← ht] at HK ⊢
  have HWZ : Hid (wz = (w.alloc (.cells #[.map (some B)] 105)).alloc (.cells #[.string p.1, v] 63)) := hwz
  clear ht k0 k1 hbz hz hv hx hxz h HE hwz hn hm
  go_enter Tryz.func93, Tryz.ntmps93
  go_wp2_with fail
  rw [← HWZ.out]
  refine HK.out.mono ?_
  rintro e w1 ⟨rfl, hb1⟩
  go_wp2
  go_ret
  exact ⟨rfl, HBZ.out.trans (hb1.mono HBZ.out.size)⟩
end Go.Proofs.YtpbknhhjfhpkmaaGreatDoor
