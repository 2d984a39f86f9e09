/- Sorting through less and swap, where less may lay blocks: what the sort's functions need of both; insertionSort_func. siftDown_func, heapSort_func, reverseRange_func. partitionEqual_func, partition_func. -/
import Derived.Test.YtpbknhhjfhpkmaaGreatDoorChecked
import Derived.Test.YtpbknhhjfhpkmaaGreatDoorGrow
import Derived.Sort.WalkA6
import Derived.Sort.WalkC4
import Derived.Sort.LotB
import Derived.Sort.LotC
import Derived.Sort.LotD3
import Derived.Shelf.Abstract
import Derived.Below
import Derived.WalkKit
import Derived.ProofKit
import Derived.OwnWalk
import Derived.Sort.WalkB3
import Derived.Deep.LoopGhost
namespace Go.Proofs.YtpbknhhjfhpkmaaGreatDoor
open Go.RowKit Go.Sort

theorem gtrans {w w1 w2 : World} {row : Option Nat} (h : w.grownBy w1 row) (k : w1.grownBy w2 row) : w.grownBy w2 row :=
  ⟨k.os.trans h.os, k.tape.trans h.tape, k.output.trans h.output, Nat.le_trans h.size k.size, fun j hj hr => (k.block j (Nat.lt_of_lt_of_le hj h.size) hr).trans (h.block j hj hr)⟩
theorem gany {w w1 : World} (row : Option Nat) (h : w.grownBy w1 none) : w.grownBy w1 row :=
  ⟨h.os, h.tape, h.output, h.size, fun j hj _ => h.block j hj (by simp)⟩
theorem gbelow {w w1 : World} (h : Go.RowKit.Below w.heap.size w w1) : w.grownBy w1 none := ⟨h.os, h.tape, h.output, h.size, fun j hj _ => h.block j hj⟩
theorem galloc (w : World) (o : Obj) : w.grownBy (w.alloc o) none := World.grownBy_alloc w o none

/- What is asked of less, of swap, and of the worlds in between: S says what the row holds. -/
structure Srt {α : Type} [Inhabited α] (S : Array α → World → Prop) (blk n : Nat) (lt : α → α → Bool) (g : Nat) (lb : Array Value) (sf : Nat) (sb : Array Value) : Prop where
  eg : ∀ args w, (callFunc g args).run Tryz.prog w = .ok (.enter g args) w
  less : ∀ {W : World} {dk : Array α}, S dk W → ∀ i j : Nat, i < n → j < n → Calls Tryz.prog g (#[.int .i64 i, .int .i64 j] ++ lb) W fun e w' => e = .returned (.bool (lt dk[i]! dk[j]!)) ∧ W.grownBy w' none
  swap : ∀ {W : World} {dk : Array α}, S dk W → ∀ i j : Nat, i < n → j < n → ∃ w', (callFunc sf (#[.int .i64 i, .int .i64 j] ++ sb)).run Tryz.prog W = .ok (.value (.tuple #[])) w' ∧ S (swp dk i j) w' ∧ W.grownBy w' (some blk)
  later : ∀ {W W' : World} {dk : Array α}, S dk W → W.grownBy W' none → S dk W'
  size : ∀ {W : World} {dk : Array α}, S dk W → dk.size = n
  lt : ∀ {W : World} {dk : Array α}, S dk W → blk < W.heap.size
  small : n < 4611686018427387904

/- Within a function: its box of less and swap stands. -/
structure InB {α : Type} (S : Array α → World → Prop) (blk : Nat) (x y : Value) (W : World) (B : Nat) (dk : Array α) (wr : World) : Prop where
  s : S dk wr
  gr : W.grownBy wr (some blk)
  box : wr.heap[B]? = some (.cells #[x, y] 143 (0, 0))
  ne : B ≠ blk
section
variable {α : Type} {S : Array α → World → Prop} {blk : Nat} {x y : Value} {W wr w1 : World} {B : Nat} {dk d' : Array α}
theorem InB.start [Inhabited α] {n : Nat} {lt : α → α → Bool} {g : Nat} {lb : Array Value} {sf : Nat} {sb : Array Value} (H : Srt S blk n lt g lb sf sb) (h : S dk W) (x y : Value) : InB S blk x y W W.heap.size dk (W.alloc (.cells #[x, y] 143)) :=
  ⟨H.later h (galloc _ _), gany _ (galloc _ _), heap_at_alloc _ _ _ rfl, fun e => by have := H.lt h; omega⟩
theorem InB.later [Inhabited α] {n : Nat} {lt : α → α → Bool} {g : Nat} {lb : Array Value} {sf : Nat} {sb : Array Value} (h : InB S blk x y W B dk wr) (H : Srt S blk n lt g lb sf sb) (hg : wr.grownBy w1 none) : InB S blk x y W B dk w1 :=
  ⟨H.later h.s hg, gtrans h.gr (gany _ hg), (hg.block _ (lt_of_block h.box) (by simp)).trans h.box, h.ne⟩
theorem InB.put (h : InB S blk x y W B dk wr) (hs : S d' w1) (hg : wr.grownBy w1 (some blk)) : InB S blk x y W B d' w1 :=
  ⟨hs, gtrans h.gr hg, (hg.block _ (lt_of_block h.box) (fun e => h.ne (by injection e))).trans h.box, h.ne⟩
theorem InB.c0 (h : InB S blk x y W B dk wr) : wr.cell? ⟨B, 0, none⟩ = some x := by simp [World.cell?, h.box]
theorem InB.c1 (h : InB S blk x y W B dk wr) : wr.cell? ⟨B, 1, none⟩ = some y := by simp [World.cell?, h.box]
theorem InB.lt (h : InB S blk x y W B dk wr) : B < wr.heap.size := lt_of_block h.box
end

variable {α : Type} [Inhabited α] {S : Array α → World → Prop} {blk n : Nat} {lt : α → α → Bool} {g : Nat} {lb : Array Value} {sf : Nat} {sb : Array Value}
set_option maxRecDepth 100000 in
set_option maxHeartbeats 2000000 in
theorem insSort (H : Srt S blk n lt g lb sf sb) (a b : Nat) (d : Array α) (W : World) (hS : S d W) (hab : a ≤ b) (hb : b ≤ n) :
    Calls Tryz.prog 117 #[.agg #[.func (.func g) #[] lb, .func (.func sf) #[] sb], .int .i64 a, .int .i64 b] W fun e w' => e = .returned (.tuple #[]) ∧ S (insertionSort lt d a b) w' ∧ W.grownBy w' (some blk) := by
  have eg := H.eg
  have hsm := H.small
  have HI : Hid (InB S blk (.func (.func g) #[] lb) (.func (.func sf) #[] sb) W W.heap.size d (W.alloc (.cells #[.func (.func g) #[] lb, .func (.func sf) #[] sb] 143))) := InB.start H hS _ _
  have HH : Hid (Srt S blk n lt g lb sf sb) := H
  clear H hS
  go_enter Tryz.func117, Tryz.ntmps117
  go_wp2
  obtain ⟨B, hB⟩ : ∃ B, B = W.heap.size := ⟨_, rfl⟩
  rw [← hB] at HI ⊢
  clear hB
  go_loopw [6] (fun vi wr => ∃ (i : Nat) (dk : Array α), vi = .int .i64 i ∧ a < i ∧ i ≤ b + 1 ∧ Hid (InB S blk (.func (.func g) #[] lb) (.func (.func sf) #[] sb) W B dk wr) ∧ Hid (insOuter lt a b i dk = insertionSort lt d a b)) (fun vi _ => b + 1 - (intOf vi).toNat)
  case atStart => exact ⟨a + 1, d, by go_num, by omega, by omega, HI, rfl⟩
  case round =>
    clear HI
    obtain ⟨i, dk, rfl, hai, hib, HI, HO⟩ := hrel
    by_cases hlt : i < b
    · go_wp2
      go_loopw [7] (fun vj wx => ∃ (j : Nat) (dj : Array α), vj = .int .i64 j ∧ a ≤ j ∧ j ≤ i ∧ Hid (InB S blk (.func (.func g) #[] lb) (.func (.func sf) #[] sb) W B dj wx) ∧ Hid (insInner lt a j dj = insInner lt a i dk)) (fun vj _ => (intOf vj).toNat)
      case atStart => exact ⟨i, dk, rfl, by omega, Nat.le_refl _, HI, rfl⟩
      case round =>
        clear HI
        obtain ⟨j, dj, rfl, haj, hji, HI, HJ⟩ := hrel
        have c0 := HI.out.c0
        have OUT : Hid (∀ w2, (j ≤ a ∨ lt dj[j]! dj[j - 1]! = false) → InB S blk (.func (.func g) #[] lb) (.func (.func sf) #[] sb) W B dj w2 → ∃ (i' : Nat) (dk' : Array α), Value.int .i64 ((i : Int) + 1) = .int .i64 (i' : Nat) ∧ a < i' ∧ i' ≤ b + 1 ∧ Hid (InB S blk (.func (.func g) #[] lb) (.func (.func sf) #[] sb) W B dk' w2) ∧ Hid (insOuter lt a b i' dk' = insertionSort lt d a b)) := fun w2 hs h2 =>
          ⟨i + 1, dj, by go_num, by omega, by omega, h2, by show _ = _; rw [← HO.out, insOuter_go _ _ _ _ _ hlt, ← HJ.out, insInner_stop _ _ _ _ hs]⟩
        by_cases hja : a < j
        · have hl := HH.out.less HI.out.s j (j - 1) (by omega) (by omega)
          rw [show (((j - 1 : Nat) : Int)) = (j : Int) - 1 by omega] at hl
          cases hlv : lt dj[j]! dj[j - 1]! with
          | true =>
            rw [hlv] at hl
            have HV : Hid (lt dj[j]! dj[j - 1]! = true) := hlv
            clear hlv
            go_wp2_with fail
            refine hl.mono ?_
            rintro e w1 ⟨rfl, hg1⟩
            have hI1 := HI.out.later HH.out hg1
            obtain ⟨w2, hsw, hs2, hg2⟩ := HH.out.swap hI1.s j (j - 1) (by omega) (by omega)
            rw [show (((j - 1 : Nat) : Int)) = (j : Int) - 1 by omega] at hsw
            have HI2 : Hid (InB S blk (.func (.func g) #[] lb) (.func (.func sf) #[] sb) W B (swp dj j (j - 1)) w2) := hI1.put hs2 hg2
            have d1 := hI1.c1
            clear hI1 hs2 hg2 hg1 hl HI
            go_wp2
            go_roundw
            case rel => exact ⟨j - 1, swp dj j (j - 1), by go_num, by omega, by omega, HI2, by show _ = _; rw [← HJ.out, insInner_go lt a j dj hja HV.out]⟩
            case measure => simp [intOf]; omega
          | false =>
            rw [hlv] at hl
            have HV : Hid (lt dj[j]! dj[j - 1]! = false) := hlv
            clear hlv
            go_wp2_with fail
            refine hl.mono ?_
            rintro e w1 ⟨rfl, hg1⟩
            have HI1 : Hid (InB S blk (.func (.func g) #[] lb) (.func (.func sf) #[] sb) W B dj w1) := HI.out.later HH.out hg1
            clear hg1 hl
            go_wp2
            go_roundw
            case rel => exact OUT.out _ (Or.inr HV.out) HI1.out
            case measure => simp [intOf]; omega
        · go_wp2
          go_roundw
          case rel => exact OUT.out _ (Or.inl (by omega)) HI.out
          case measure => simp [intOf]; omega
    · go_wp2
      go_end0
      refine ⟨rfl, ?_, HI.out.gr⟩
      rw [← HO.out, insOuter_stop _ _ _ _ _ hlt]
      exact HI.out.s
end Go.Proofs.YtpbknhhjfhpkmaaGreatDoor

namespace Go.Proofs.YtpbknhhjfhpkmaaGreatDoor
open Go.RowKit Go.Sort
variable {α : Type} [Inhabited α] {S : Array α → World → Prop} {blk n : Nat} {lt : α → α → Bool} {g : Nat} {lb : Array Value} {sf : Nat} {sb : Array Value}

theorem Srt.lessZ (H : Srt S blk n lt g lb sf sb) {W : World} {dk : Array α} (h : S dk W) (zi zj : Int) (i j : Nat) (ei : zi = i) (ej : zj = j) (hi : i < n) (hj : j < n) {t : Bool} (ht : lt dk[i]! dk[j]! = t) :
    Calls Tryz.prog g (#[.int .i64 zi, .int .i64 zj] ++ lb) W fun e w' => e = .returned (.bool t) ∧ W.grownBy w' none := by
  subst ei ej ht
  exact H.less h i j hi hj
theorem Srt.swapZ (H : Srt S blk n lt g lb sf sb) {W : World} {dk : Array α} (h : S dk W) (zi zj : Int) (i j : Nat) (ei : zi = i) (ej : zj = j) (hi : i < n) (hj : j < n) :
    ∃ w', (callFunc sf (#[.int .i64 zi, .int .i64 zj] ++ sb)).run Tryz.prog W = .ok (.value (.tuple #[])) w' ∧ S (swp dk i j) w' ∧ W.grownBy w' (some blk) := by
  subst ei ej
  exact H.swap h i j hi hj

set_option maxRecDepth 100000 in
set_option maxHeartbeats 4000000 in
theorem siftDownS (H : Srt S blk n lt g lb sf sb) (lo hi first : Nat) (d : Array α) (W : World) (hS : S d W) (hlo : lo ≤ hi) (hb : first + hi ≤ n) :
    Calls Tryz.prog 164 #[.agg #[.func (.func g) #[] lb, .func (.func sf) #[] sb], .int .i64 lo, .int .i64 hi, .int .i64 first] W fun e w' => e = .returned (.tuple #[]) ∧ S (siftDown lt hi first lo d) w' ∧ W.grownBy w' (some blk) := by
  have eg := H.eg
  have hsm := H.small
  have HI : Hid (InB S blk (.func (.func g) #[] lb) (.func (.func sf) #[] sb) W W.heap.size d (W.alloc (.cells #[.func (.func g) #[] lb, .func (.func sf) #[] sb] 143))) := InB.start H hS _ _
  have HH : Hid (Srt S blk n lt g lb sf sb) := H
  clear H hS
  go_enter Tryz.func164, Tryz.ntmps164
  go_wp2
  obtain ⟨B, hB⟩ : ∃ B, B = W.heap.size := ⟨_, rfl⟩
  rw [← hB] at HI ⊢
  clear hB
  go_loopg [8] (hi - lo) (fun k s8 wr => ∃ (root : Nat) (dk : Array α), s8 = .int .i64 root ∧ root ≤ hi ∧ hi - root ≤ k ∧ Hid (InB S blk (.func (.func g) #[] lb) (.func (.func sf) #[] sb) W B dk wr) ∧ Hid (siftDown lt hi first root dk = siftDown lt hi first lo d))
  case atStart => exact ⟨lo, d, rfl, hlo, Nat.le_refl _, HI, rfl⟩
  case round =>
    clear HI
    obtain ⟨root, dk, rfl, hr, hk, HI, HE⟩ := hrel
    have c0 := HI.out.c0
    by_cases h0 : hi ≤ 2 * root + 1
    · have h0z : (hi : Int) ≤ 2 * (root : Int) + 1 := by omega
      go_wp2
      go_end0
      exact ⟨rfl, by rw [← HE.out, sd_end lt dk h0]; exact HI.out.s, HI.out.gr⟩
    · have h0z : ¬ ((hi : Int) ≤ 2 * (root : Int) + 1) := by omega
      by_cases h1 : 2 * root + 2 < hi
      · have h1z : 2 * (root : Int) + 1 + 1 < (hi : Int) := by omega
        cases hL : lt dk[first + (2 * root + 1)]! dk[first + (2 * root + 2)]! with
        | true =>
          have HL : Hid (lt dk[first + (2 * root + 1)]! dk[first + (2 * root + 2)]! = true) := hL
          clear hL
          have hl := HH.out.lessZ HI.out.s ((first : Int) + (2 * (root : Int) + 1)) ((first : Int) + (2 * (root : Int) + 1) + 1) (first + (2 * root + 1)) (first + (2 * root + 2)) (by omega) (by omega) (by omega) (by omega) HL.out
          go_wp2_with fail
          refine hl.mono ?_
          rintro e w1 ⟨rfl, hg⟩
          have HI1 : Hid (InB S blk (.func (.func g) #[] lb) (.func (.func sf) #[] sb) W B dk w1) := HI.out.later HH.out hg
          clear hg hl
          cases hG : lt dk[first + root]! dk[first + (2 * root + 2)]! with
          | true =>
            have HG : Hid (lt dk[first + root]! dk[first + (2 * root + 2)]! = true) := hG
            clear hG
            have c0b := HI1.out.c0
            have hl := HH.out.lessZ HI1.out.s ((first : Int) + (root : Int)) ((first : Int) + (2 * (root : Int) + 1 + 1)) (first + root) (first + (2 * root + 2)) (by omega) (by omega) (by omega) (by omega) HG.out
            go_wp2_with fail
            refine hl.mono ?_
            rintro e w2 ⟨rfl, hg⟩
            have HK : Hid (InB S blk (.func (.func g) #[] lb) (.func (.func sf) #[] sb) W B dk w2) := HI1.out.later HH.out hg
            clear hg hl
            obtain ⟨w3, hsw, hs2, hg2⟩ := HH.out.swapZ HK.out.s ((first : Int) + (root : Int)) ((first : Int) + (2 * (root : Int) + 1 + 1)) (first + root) (first + (2 * root + 2)) (by omega) (by omega) (by omega) (by omega)
            have HJ : Hid (InB S blk (.func (.func g) #[] lb) (.func (.func sf) #[] sb) W B (swp dk (first + root) (first + (2 * root + 2))) w3) := HK.out.put hs2 hg2
            have d1 := HK.out.c1
            clear hs2 hg2
            clear HI
            go_wp2
            go_roundg (hi - (2 * root + 2))
            case measure => omega
            case rel => exact ⟨2 * root + 2, swp dk (first + root) (first + (2 * root + 2)), by go_num, by omega, Nat.le_refl _, HJ, by show _ = _; rw [← HE.out, sd_right_go lt dk h1 HL.out HG.out]⟩
          | false =>
            have HG : Hid (lt dk[first + root]! dk[first + (2 * root + 2)]! = false) := hG
            clear hG
            have c0b := HI1.out.c0
            have hl := HH.out.lessZ HI1.out.s ((first : Int) + (root : Int)) ((first : Int) + (2 * (root : Int) + 1 + 1)) (first + root) (first + (2 * root + 2)) (by omega) (by omega) (by omega) (by omega) HG.out
            go_wp2_with fail
            refine hl.mono ?_
            rintro e w2 ⟨rfl, hg⟩
            have HK : Hid (InB S blk (.func (.func g) #[] lb) (.func (.func sf) #[] sb) W B dk w2) := HI1.out.later HH.out hg
            clear hg hl
            go_wp2
            (try simp only [Exit.inBlock, Exit.then])
            refine bodyPost_ret (results_none rfl _ _ _) rfl ?_
            exact ⟨rfl, by rw [← HE.out, sd_right_stop lt dk h1 HL.out HG.out]; exact HK.out.s, HK.out.gr⟩
        | false =>
          have HL : Hid (lt dk[first + (2 * root + 1)]! dk[first + (2 * root + 2)]! = false) := hL
          clear hL
          have hl := HH.out.lessZ HI.out.s ((first : Int) + (2 * (root : Int) + 1)) ((first : Int) + (2 * (root : Int) + 1) + 1) (first + (2 * root + 1)) (first + (2 * root + 2)) (by omega) (by omega) (by omega) (by omega) HL.out
          go_wp2_with fail
          refine hl.mono ?_
          rintro e w1 ⟨rfl, hg⟩
          have HI1 : Hid (InB S blk (.func (.func g) #[] lb) (.func (.func sf) #[] sb) W B dk w1) := HI.out.later HH.out hg
          clear hg hl
          cases hG : lt dk[first + root]! dk[first + (2 * root + 1)]! with
          | true =>
            have HG : Hid (lt dk[first + root]! dk[first + (2 * root + 1)]! = true) := hG
            clear hG
            have c0b := HI1.out.c0
            have hl := HH.out.lessZ HI1.out.s ((first : Int) + (root : Int)) ((first : Int) + (2 * (root : Int) + 1)) (first + root) (first + (2 * root + 1)) (by omega) (by omega) (by omega) (by omega) HG.out
            go_wp2_with fail
            refine hl.mono ?_
            rintro e w2 ⟨rfl, hg⟩
            have HK : Hid (InB S blk (.func (.func g) #[] lb) (.func (.func sf) #[] sb) W B dk w2) := HI1.out.later HH.out hg
            clear hg hl
            obtain ⟨w3, hsw, hs2, hg2⟩ := HH.out.swapZ HK.out.s ((first : Int) + (root : Int)) ((first : Int) + (2 * (root : Int) + 1)) (first + root) (first + (2 * root + 1)) (by omega) (by omega) (by omega) (by omega)
            have HJ : Hid (InB S blk (.func (.func g) #[] lb) (.func (.func sf) #[] sb) W B (swp dk (first + root) (first + (2 * root + 1))) w3) := HK.out.put hs2 hg2
            have d1 := HK.out.c1
            clear hs2 hg2
            clear HI
            go_wp2
            go_roundg (hi - (2 * root + 1))
            case measure => omega
            case rel => exact ⟨2 * root + 1, swp dk (first + root) (first + (2 * root + 1)), by go_num, by omega, Nat.le_refl _, HJ, by show _ = _; rw [← HE.out, sd_left_go lt dk (by omega) (fun _ => HL.out) HG.out]⟩
          | false =>
            have HG : Hid (lt dk[first + root]! dk[first + (2 * root + 1)]! = false) := hG
            clear hG
            have c0b := HI1.out.c0
            have hl := HH.out.lessZ HI1.out.s ((first : Int) + (root : Int)) ((first : Int) + (2 * (root : Int) + 1)) (first + root) (first + (2 * root + 1)) (by omega) (by omega) (by omega) (by omega) HG.out
            go_wp2_with fail
            refine hl.mono ?_
            rintro e w2 ⟨rfl, hg⟩
            have HK : Hid (InB S blk (.func (.func g) #[] lb) (.func (.func sf) #[] sb) W B dk w2) := HI1.out.later HH.out hg
            clear hg hl
            go_wp2
            (try simp only [Exit.inBlock, Exit.then])
            refine bodyPost_ret (results_none rfl _ _ _) rfl ?_
            exact ⟨rfl, by rw [← HE.out, sd_left_stop lt dk (by omega) (fun _ => HL.out) HG.out]; exact HK.out.s, HK.out.gr⟩
      · have h1z : ¬ (2 * (root : Int) + 1 + 1 < (hi : Int)) := by omega
        cases hG : lt dk[first + root]! dk[first + (2 * root + 1)]! with
        | true =>
          have HG : Hid (lt dk[first + root]! dk[first + (2 * root + 1)]! = true) := hG
          clear hG
          have c0b := HI.out.c0
          have hl := HH.out.lessZ HI.out.s ((first : Int) + (root : Int)) ((first : Int) + (2 * (root : Int) + 1)) (first + root) (first + (2 * root + 1)) (by omega) (by omega) (by omega) (by omega) HG.out
          go_wp2_with fail
          refine hl.mono ?_
          rintro e w2 ⟨rfl, hg⟩
          have HK : Hid (InB S blk (.func (.func g) #[] lb) (.func (.func sf) #[] sb) W B dk w2) := HI.out.later HH.out hg
          clear hg hl
          obtain ⟨w3, hsw, hs2, hg2⟩ := HH.out.swapZ HK.out.s ((first : Int) + (root : Int)) ((first : Int) + (2 * (root : Int) + 1)) (first + root) (first + (2 * root + 1)) (by omega) (by omega) (by omega) (by omega)
          have HJ : Hid (InB S blk (.func (.func g) #[] lb) (.func (.func sf) #[] sb) W B (swp dk (first + root) (first + (2 * root + 1))) w3) := HK.out.put hs2 hg2
          have d1 := HK.out.c1
          clear hs2 hg2
          clear HI
          go_wp2
          go_roundg (hi - (2 * root + 1))
          case measure => omega
          case rel => exact ⟨2 * root + 1, swp dk (first + root) (first + (2 * root + 1)), by go_num, by omega, Nat.le_refl _, HJ, by show _ = _; rw [← HE.out, sd_left_go lt dk (by omega) (fun h => absurd h h1) HG.out]⟩
        | false =>
          have HG : Hid (lt dk[first + root]! dk[first + (2 * root + 1)]! = false) := hG
          clear hG
          have c0b := HI.out.c0
          have hl := HH.out.lessZ HI.out.s ((first : Int) + (root : Int)) ((first : Int) + (2 * (root : Int) + 1)) (first + root) (first + (2 * root + 1)) (by omega) (by omega) (by omega) (by omega) HG.out
          go_wp2_with fail
          refine hl.mono ?_
          rintro e w2 ⟨rfl, hg⟩
          have HK : Hid (InB S blk (.func (.func g) #[] lb) (.func (.func sf) #[] sb) W B dk w2) := HI.out.later HH.out hg
          clear hg hl
          go_wp2
          (try simp only [Exit.inBlock, Exit.then])
          refine bodyPost_ret (results_none rfl _ _ _) rfl ?_
          exact ⟨rfl, by rw [← HE.out, sd_left_stop lt dk (by omega) (fun h => absurd h h1) HG.out]; exact HK.out.s, HK.out.gr⟩

set_option maxRecDepth 100000 in
set_option maxHeartbeats 4000000 in
theorem heapSortS (H : Srt S blk n lt g lb sf sb) (a b : Nat) (d : Array α) (W : World) (hS : S d W) (hab : a ≤ b) (hb : b ≤ n) :
    Calls Tryz.prog 118 #[.agg #[.func (.func g) #[] lb, .func (.func sf) #[] sb], .int .i64 a, .int .i64 b] W fun e w' => e = .returned (.tuple #[]) ∧ S (heapSort lt d a b) w' ∧ W.grownBy w' (some blk) := by
  have eg := H.eg
  have hsm := H.small
  have HI : Hid (InB S blk (.func (.func g) #[] lb) (.func (.func sf) #[] sb) W W.heap.size d (W.alloc (.cells #[.func (.func g) #[] lb, .func (.func sf) #[] sb] 143))) := InB.start H hS _ _
  have HH : Hid (Srt S blk n lt g lb sf sb) := H
  clear H hS
  have ecast : ((b - a : Nat) : Int) = (b : Int) - (a : Int) := by omega
  go_enter Tryz.func118, Tryz.ntmps118
  go_wp2
  obtain ⟨B, hB⟩ : ∃ B, B = W.heap.size := ⟨_, rfl⟩
  rw [← hB] at HI ⊢
  clear hB
  go_loopg [9] ((b - a - 1) / 2 + 1) (fun k s9 wr => s9 = .int .i64 ((k : Int) - 1) ∧ k ≤ (b - a - 1) / 2 + 1 ∧ ∃ (dk : Array α), Hid (InB S blk (.func (.func g) #[] lb) (.func (.func sf) #[] sb) W B dk wr) ∧ Hid (heapBuild lt (b - a) a k dk = heapBuild lt (b - a) a ((b - a - 1) / 2 + 1) d))
  case atStart => exact ⟨by rw [half_start hab], Nat.le_refl _, d, HI, rfl⟩
  case round =>
    clear HI
    obtain ⟨rfl, hkk, dk, HI, HE⟩ := hrel
    cases gk with
    | zero =>
      have HB : Hid (dk = heapBuild lt (b - a) a ((b - a - 1) / 2 + 1) d) := HE.out
      clear HE hkk
      go_wp2
      go_loopg [10] (b - a) (fun k s10 wx => s10 = .int .i64 ((k : Int) - 1) ∧ k ≤ b - a ∧ ∃ (dj : Array α), Hid (InB S blk (.func (.func g) #[] lb) (.func (.func sf) #[] sb) W B dj wx) ∧ Hid (heapPop lt a k dj = heapPop lt a (b - a) dk))
      case atStart => exact ⟨by rw [ecast], Nat.le_refl _, dk, HI, rfl⟩
      case round =>
        clear HI
        obtain ⟨rfl, hkk, dj, HI, HP⟩ := hrel
        cases gk with
        | zero =>
          go_wp2
          go_end0
          refine ⟨rfl, ?_, HI.out.gr⟩
          have e : dj = heapSort lt d a b := by rw [heapSort, ← HB.out, ← HP.out]; rfl
          rw [← e]
          exact HI.out.s
        | succ k =>
          obtain ⟨w2, hsw, hs2, hg2⟩ := HH.out.swapZ HI.out.s ((a : Int)) ((a : Int) + (k : Int)) (a) (a + k) (by omega) (by omega) (by omega) (by omega)
          have HJ : Hid (InB S blk (.func (.func g) #[] lb) (.func (.func sf) #[] sb) W B (swp dj (a) (a + k)) w2) := HI.out.put hs2 hg2
          have d1 := HI.out.c1
          clear hs2 hg2
          have hcall := siftDownS HH.out 0 k a (swp dj a (a + k)) w2 HJ.out.s (Nat.zero_le _) (by omega)
          have d0 := HJ.out.c0
          have d2 := HJ.out.c1
          clear HI
          go_wp2_with fail
          refine hcall.mono ?_
          rintro e w3 ⟨rfl, hs3, hg3⟩
          have HK : Hid (InB S blk (.func (.func g) #[] lb) (.func (.func sf) #[] sb) W B (siftDown lt k a 0 (swp dj a (a + k))) w3) := HJ.out.put hs3 hg3
          clear hs3 hg3 hcall
          go_wp2
          go_roundg k
          case measure => omega
          case rel => exact ⟨by congr 1 <;> omega, by omega, _, HK, by show _ = _; rw [← HP.out]; rfl⟩
    | succ k =>
      have hcall := siftDownS HH.out k (b - a) a dk wr HI.out.s (by omega) (by omega)
      rw [ecast] at hcall
      have d0 := HI.out.c0
      have d1 := HI.out.c1
      go_wp2_with fail
      refine hcall.mono ?_
      rintro e w3 ⟨rfl, hs3, hg3⟩
      have HK : Hid (InB S blk (.func (.func g) #[] lb) (.func (.func sf) #[] sb) W B (siftDown lt (b - a) a k dk) w3) := HI.out.put hs3 hg3
      clear hs3 hg3 hcall HI
      go_wp2
      go_roundg k
      case measure => omega
      case rel => exact ⟨by congr 1 <;> omega, by omega, _, HK, by show _ = _; rw [← HE.out]; rfl⟩

set_option maxRecDepth 100000 in
set_option maxHeartbeats 4000000 in
theorem reverseS (H : Srt S blk n lt g lb sf sb) (a b : Nat) (d : Array α) (W : World) (hS : S d W) (hab : a ≤ b) (hb : b ≤ n) :
    Calls Tryz.prog 121 #[.agg #[.func (.func g) #[] lb, .func (.func sf) #[] sb], .int .i64 a, .int .i64 b] W fun e w' => e = .returned (.tuple #[]) ∧ S (reverseRange d a b) w' ∧ W.grownBy w' (some blk) := by
  have eg := H.eg
  have hsm := H.small
  have HI : Hid (InB S blk (.func (.func g) #[] lb) (.func (.func sf) #[] sb) W W.heap.size d (W.alloc (.cells #[.func (.func g) #[] lb, .func (.func sf) #[] sb] 143))) := InB.start H hS _ _
  have HH : Hid (Srt S blk n lt g lb sf sb) := H
  clear H hS
  go_enter Tryz.func121, Tryz.ntmps121
  go_wp2
  obtain ⟨B, hB⟩ : ∃ B, B = W.heap.size := ⟨_, rfl⟩
  rw [← hB] at HI ⊢
  clear hB
  go_loopg [6, 7] (b - a) (fun k s6 s7 wr => ∃ (i jn : Nat) (jz : Int) (dk : Array α), s6 = .int .i64 i ∧ s7 = .int .i64 jz ∧ ((i : Int) < jz → jz = jn ∧ jn < n) ∧ (¬ (i : Int) < jz → ¬ i < jn) ∧ jn - i ≤ k ∧ Hid (InB S blk (.func (.func g) #[] lb) (.func (.func sf) #[] sb) W B dk wr) ∧ Hid (reverseLoop i jn dk = reverseLoop a (b - 1) d))
  case atStart => exact ⟨a, b - 1, (b : Int) - 1, d, rfl, rfl, fun h => ⟨by omega, by omega⟩, fun h => by omega, by omega, HI, rfl⟩
  case round =>
    clear HI
    obtain ⟨i, jn, jz, dk, rfl, rfl, h1, h2, hk, HI, HE⟩ := hrel
    by_cases hlt : (i : Int) < jz
    · obtain ⟨rfl, hjn⟩ := h1 hlt
      have hij : i < jn := by omega
      obtain ⟨w2, hsw, hs2, hg2⟩ := HH.out.swapZ HI.out.s ((i : Int)) ((jn : Int)) (i) (jn) (by omega) (by omega) (by omega) (by omega)
      have HJ : Hid (InB S blk (.func (.func g) #[] lb) (.func (.func sf) #[] sb) W B (swp dk (i) (jn)) w2) := HI.out.put hs2 hg2
      have d1 := HI.out.c1
      clear hs2 hg2
      clear HI h1 h2
      go_wp2
      go_roundg (jn - 1 - (i + 1))
      case measure => omega
      case rel => exact ⟨i + 1, jn - 1, (jn : Int) - 1, swp dk i jn, by simp, rfl, fun h => ⟨by omega, by omega⟩, fun h => by omega, Nat.le_refl _, HJ, by show _ = _; rw [← HE.out]; conv => rhs; rw [reverseLoop, if_pos hij]⟩
    · have hnot := h2 hlt
      clear h1 h2
      go_wp2
      go_end0
      refine ⟨rfl, ?_, HI.out.gr⟩
      rw [reverseRange, ← HE.out, reverseLoop, if_neg hnot]
      exact HI.out.s
end Go.Proofs.YtpbknhhjfhpkmaaGreatDoor

namespace Go.Proofs.YtpbknhhjfhpkmaaGreatDoor
open Go.RowKit Go.Sort
variable {α : Type} [Inhabited α] {S : Array α → World → Prop} {blk n : Nat} {lt : α → α → Bool} {g : Nat} {lb : Array Value} {sf : Nat} {sb : Array Value}
set_option maxRecDepth 100000 in
set_option maxHeartbeats 4000000 in
theorem partEqS (H : Srt S blk n lt g lb sf sb) (a b pivot : Nat) (d : Array α) (W : World) (hS : S d W) (hap : a ≤ pivot) (hpb : pivot < b) (hb : b ≤ n) :
    Calls Tryz.prog 123 #[.agg #[.func (.func g) #[] lb, .func (.func sf) #[] sb], .int .i64 a, .int .i64 b, .int .i64 pivot] W fun e w' => e = .returned (.int .i64 (partitionEqual lt d a b pivot).1) ∧ S (partitionEqual lt d a b pivot).2 w' ∧ W.grownBy w' (some blk) := by
  have eg := H.eg
  have hsm := H.small
  have HI : Hid (InB S blk (.func (.func g) #[] lb) (.func (.func sf) #[] sb) W W.heap.size d (W.alloc (.cells #[.func (.func g) #[] lb, .func (.func sf) #[] sb] 143))) := InB.start H hS _ _
  have HH : Hid (Srt S blk n lt g lb sf sb) := H
  clear H hS
  obtain ⟨wz, hwz⟩ : ∃ wz, wz = W.alloc (.cells #[.func (.func g) #[] lb, .func (.func sf) #[] sb] 143) := ⟨_, rfl⟩
  rw [← hwz] at HI
  obtain ⟨w0, hsw0, hs0, hg0⟩ := HH.out.swapZ HI.out.s (a : Int) (pivot : Int) a pivot rfl rfl (by omega) (by omega)
  have HI0 : Hid (InB S blk (.func (.func g) #[] lb) (.func (.func sf) #[] sb) W W.heap.size (swp d a pivot) w0) := HI.out.put hs0 hg0
  have HWZ : Hid (wz = W.alloc (.cells #[.func (.func g) #[] lb, .func (.func sf) #[] sb] 143)) := hwz
  rw [hwz] at hsw0
  clear hs0 hg0 HI hwz
  go_enter Tryz.func123, Tryz.ntmps123
  go_wp2
  clear hsw0
  obtain ⟨B, hB⟩ : ∃ B, B = W.heap.size := ⟨_, rfl⟩
  rw [← hB] at HI0 ⊢
  clear hB
  go_loopw [9, 10] (fun vi vj wr => ∃ (i j : Nat) (dk : Array α), vi = .int .i64 i ∧ vj = .int .i64 j ∧ a < i ∧ i ≤ j + 1 ∧ j < b ∧ Hid (InB S blk (.func (.func g) #[] lb) (.func (.func sf) #[] sb) W B dk wr) ∧ Hid (partEqLoop lt a i j dk = partEqLoop lt a (a + 1) (b - 1) (swp d a pivot))) (fun vi vj _ => (intOf vj).toNat + 1 - (intOf vi).toNat)
  case atStart => exact ⟨a + 1, b - 1, swp d a pivot, by go_num, by go_num, by omega, by omega, by omega, HI0, rfl⟩
  case round =>
    clear HI0
    obtain ⟨i, j, dk, rfl, rfl, hai, hij, hjb, HI, AE⟩ := hrel
    go_wp2
    go_loopw [9] (fun vi w1 => ∃ (i' : Nat), vi = .int .i64 i' ∧ i ≤ i' ∧ i' ≤ j + 1 ∧ Hid (InB S blk (.func (.func g) #[] lb) (.func (.func sf) #[] sb) W B dk w1) ∧ Hid (scanUp (fun x => !lt dk[a]! x) dk j i' = scanUp (fun x => !lt dk[a]! x) dk j i)) (fun vi _ => j + 1 - (intOf vi).toNat)
    case atStart => exact ⟨i, rfl, Nat.le_refl _, hij, HI, rfl⟩
    case round =>
      clear HI
      obtain ⟨i', rfl, hii, hij', HU, HSC⟩ := hrel
      have e0 := HU.out.c0
      by_cases hle : i' ≤ j
      · cases hlv : lt dk[a]! dk[i']! with
        | false =>
          have HV : Hid (lt dk[a]! dk[i']! = false) := hlv
          clear hlv
          have hl := HH.out.lessZ HU.out.s ((a : Int)) ((i' : Int)) (a) (i') (by omega) (by omega) (by omega) (by omega) HV.out
          go_wp2_with fail
          refine hl.mono ?_
          rintro e w2 ⟨rfl, hg⟩
          have HU1 : Hid (InB S blk (.func (.func g) #[] lb) (.func (.func sf) #[] sb) W B dk w2) := HU.out.later HH.out hg
          clear hg hl
          go_wp2
          go_roundw
          case rel => exact ⟨i' + 1, by go_num, by omega, by omega, HU1, (scanUp_go (fun x => !lt dk[a]! x) dk j i' hle (by simp [HV.out])).symm.trans HSC.out⟩
          case measure => simp [intOf]; omega
        | true =>
          have HV : Hid (lt dk[a]! dk[i']! = true) := hlv
          clear hlv
          have HI2 : Hid (i' = scanUp (fun x => !lt dk[a]! x) dk j i) := (scanUp_end (fun x => !lt dk[a]! x) dk j i' (Or.inr (by simp [HV.out]))).symm.trans HSC.out
          have hl := HH.out.lessZ HU.out.s ((a : Int)) ((i' : Int)) (a) (i') (by omega) (by omega) (by omega) (by omega) HV.out
          go_wp2_with fail
          refine hl.mono ?_
          rintro e w2 ⟨rfl, hg⟩
          have HU1 : Hid (InB S blk (.func (.func g) #[] lb) (.func (.func sf) #[] sb) W B dk w2) := HU.out.later HH.out hg
          clear hg hl
          clear HU HSC HV e0
          go_wp2
          go_loopw [10] (fun vj w2 => ∃ (j' : Nat), vj = .int .i64 j' ∧ j' ≤ j ∧ i' ≤ j' + 1 ∧ Hid (InB S blk (.func (.func g) #[] lb) (.func (.func sf) #[] sb) W B dk w2) ∧ Hid (scanDown (fun x => lt dk[a]! x) dk i' j' = scanDown (fun x => lt dk[a]! x) dk i' j)) (fun vj _ => (intOf vj).toNat)
          case atStart => exact ⟨j, rfl, Nat.le_refl _, hij', HU1, rfl⟩
          case round =>
            clear HU1
            obtain ⟨j', rfl, hjj, hij2, HD, HSD⟩ := hrel
            have e0 := HD.out.c0
            by_cases hle2 : i' ≤ j'
            · cases hlv2 : lt dk[a]! dk[j']! with
              | true =>
                have HV2 : Hid (lt dk[a]! dk[j']! = true) := hlv2
                clear hlv2
                have hl := HH.out.lessZ HD.out.s ((a : Int)) ((j' : Int)) (a) (j') (by omega) (by omega) (by omega) (by omega) HV2.out
                go_wp2_with fail
                refine hl.mono ?_
                rintro e w2 ⟨rfl, hg⟩
                have HD1 : Hid (InB S blk (.func (.func g) #[] lb) (.func (.func sf) #[] sb) W B dk w2) := HD.out.later HH.out hg
                clear hg hl
                go_wp2
                go_roundw
                case rel => exact ⟨j' - 1, by go_num, by omega, by omega, HD1, (scanDown_go (fun x => lt dk[a]! x) dk i' j' hle2 (by omega) (by simp [HV2.out])).symm.trans HSD.out⟩
                case measure => simp [intOf]; omega
              | false =>
                have HV2 : Hid (lt dk[a]! dk[j']! = false) := hlv2
                clear hlv2
                have HJ2 : Hid (j' = scanDown (fun x => lt dk[a]! x) dk i' j) := (scanDown_end (fun x => lt dk[a]! x) dk i' j' (Or.inr (by simp [HV2.out]))).symm.trans HSD.out
                have hlt3 : i' < j' := scans_lt lt a i j dk (by omega) HI2.out HJ2.out hle2
                have hl := HH.out.lessZ HD.out.s ((a : Int)) ((j' : Int)) (a) (j') (by omega) (by omega) (by omega) (by omega) HV2.out
                go_wp2_with fail
                refine hl.mono ?_
                rintro e w2 ⟨rfl, hg⟩
                have HD1 : Hid (InB S blk (.func (.func g) #[] lb) (.func (.func sf) #[] sb) W B dk w2) := HD.out.later HH.out hg
                clear hg hl
                obtain ⟨w4, hsw, hs2, hg2⟩ := HH.out.swapZ HD1.out.s ((i' : Int)) ((j' : Int)) (i') (j') (by omega) (by omega) (by omega) (by omega)
                have HS : Hid (InB S blk (.func (.func g) #[] lb) (.func (.func sf) #[] sb) W B (swp dk (i') (j')) w4) := HD1.out.put hs2 hg2
                have d1 := HD1.out.c1
                clear hs2 hg2
                clear HD
                go_wp2
                go_roundw
                case rel => exact ⟨i' + 1, j' - 1, swp dk i' j', by go_num, by go_num, by omega, by omega, by omega, HS, by show _ = _; rw [← AE.out]; exact (partEq_go lt a i j dk HI2.out HJ2.out (by omega)).symm⟩
                case measure => simp [intOf]; omega
            · have HJ2 : Hid (j' = scanDown (fun x => lt dk[a]! x) dk i' j) := (scanDown_end (fun x => lt dk[a]! x) dk i' j' (Or.inl hle2)).symm.trans HSD.out
              have hgt : j' < i' := by omega
              have HQ : Hid (partitionEqual lt d a b pivot = (i', dk)) := by show _ = _; unfold partitionEqual; rw [← AE.out]; exact partEq_break lt a i j dk HI2.out HJ2.out hgt
              go_wp2
              go_ret
              refine ⟨?_, ?_, HD.out.gr⟩
              · rw [HQ.out]; rfl
              · rw [HQ.out]; exact HD.out.s
      · have HI2 : Hid (i' = scanUp (fun x => !lt dk[a]! x) dk j i) := (scanUp_end (fun x => !lt dk[a]! x) dk j i' (Or.inl hle)).symm.trans HSC.out
        clear HSC e0
        go_wp2
        go_loopw [10] (fun vj w2 => ∃ (j' : Nat), vj = .int .i64 j' ∧ j' ≤ j ∧ i' ≤ j' + 1 ∧ Hid (InB S blk (.func (.func g) #[] lb) (.func (.func sf) #[] sb) W B dk w2) ∧ Hid (scanDown (fun x => lt dk[a]! x) dk i' j' = scanDown (fun x => lt dk[a]! x) dk i' j)) (fun vj _ => (intOf vj).toNat)
        case atStart => exact ⟨j, rfl, Nat.le_refl _, hij', HU, rfl⟩
        case round =>
          clear HU
          obtain ⟨j', rfl, hjj, hij2, HD, HSD⟩ := hrel
          have e0 := HD.out.c0
          have hle2 : ¬ i' ≤ j' := by omega
          have HJ2 : Hid (j' = scanDown (fun x => lt dk[a]! x) dk i' j) := (scanDown_end (fun x => lt dk[a]! x) dk i' j' (Or.inl hle2)).symm.trans HSD.out
          have hgt : j' < i' := by omega
          have HQ : Hid (partitionEqual lt d a b pivot = (i', dk)) := by show _ = _; unfold partitionEqual; rw [← AE.out]; exact partEq_break lt a i j dk HI2.out HJ2.out hgt
          go_wp2
          go_ret
          refine ⟨?_, ?_, HD.out.gr⟩
          · rw [HQ.out]; rfl
          · rw [HQ.out]; exact HD.out.s

end Go.Proofs.YtpbknhhjfhpkmaaGreatDoor
