/- Rows of strings and of pairs of strings; slices.Index and slices.Contains at strings. -/
import Derived.Test.YtcdeicfegfedfaaGreatDoorChecked
import Derived.Test.YtcdeicfegfedfaaGreatDoorGaLex
import Derived.Test.YtcdeicfegfedfaaGreatDoorAct
import Derived.WalkKit
import Derived.ProofKit
namespace Go.Proofs.YtcdeicfegfedfaaGreatDoor
open Go.RowKit

structure Strs (w : World) (ao : Option Addr) (b off : Nat) (ls : List ByteArray) : Prop where
  adr : 0 < ls.length → ao = some ⟨b, off, none⟩
  cell : ∀ k (h : k < ls.length), w.cell? ⟨b, off + k, none⟩ = some (.string ls[k])
  lt : 0 < ls.length → b < w.heap.size
theorem Strs.later {w w' : World} {ao : Option Addr} {b off : Nat} {ls : List ByteArray} (h : Strs w ao b off ls) (hb : Below w.heap.size w w') : Strs w' ao b off ls :=
  ⟨h.adr, fun k hk => (hb.cell (p := ⟨b, off + k, none⟩) (h.lt (by omega))).trans (h.cell k hk), fun hn => Nat.lt_of_lt_of_le (h.lt hn) hb.size⟩
theorem Strs.take {w : World} {ao : Option Addr} {b off : Nat} {ls : List ByteArray} (h : Strs w ao b off ls) (k : Nat) : Strs w ao b off (ls.take k) := by
  refine ⟨fun hp => h.adr ?_, fun j hj => ?_, fun hp => h.lt ?_⟩
  · simp at hp; omega
  · simp at hj
    rw [h.cell j (by omega)]
    simp
  · simp at hp; omega

theorem Strs.of_heap {w w' : World} {ao : Option Addr} {b off : Nat} {ls : List ByteArray} (h : Strs w ao b off ls) (hb : w'.heap = w.heap) : Strs w' ao b off ls :=
  ⟨h.adr, fun k hk => by rw [← h.cell k hk]; simp only [World.cell?, hb], fun hn => by rw [hb]; exact h.lt hn⟩

structure Prs (w : World) (ao : Option Addr) (b off : Nat) (ps : List (ByteArray × ByteArray)) : Prop where
  adr : 0 < ps.length → ao = some ⟨b, off, none⟩
  c0 : ∀ k (h : k < ps.length), w.cell? ⟨b, off + k * 2, none⟩ = some (.string ps[k].1)
  c1 : ∀ k (h : k < ps.length), w.cell? ⟨b, off + k * 2 + 1, none⟩ = some (.string ps[k].2)
  lt : 0 < ps.length → b < w.heap.size
theorem Prs.later {w w' : World} {ao : Option Addr} {b off : Nat} {ps : List (ByteArray × ByteArray)} (h : Prs w ao b off ps) (hb : Below w.heap.size w w') : Prs w' ao b off ps :=
  ⟨h.adr, fun k hk => (hb.cell (p := ⟨b, off + k * 2, none⟩) (h.lt (by omega))).trans (h.c0 k hk), fun k hk => (hb.cell (p := ⟨b, off + k * 2 + 1, none⟩) (h.lt (by omega))).trans (h.c1 k hk), fun hn => Nat.lt_of_lt_of_le (h.lt hn) hb.size⟩

theorem toList_inj {s t : ByteArray} (h : s.toList = t.toList) : s = t := by
  rw [Lex.list_of, Lex.list_of] at h
  exact ByteArray.ext (Array.ext' h)
theorem beq_ne {s t : ByteArray} (h : s ≠ t) : (s.toList == t.toList) = false := by
  simp only [beq_eq_false_iff_ne]
  exact fun e => h (toList_inj e)
theorem beq_dec (s t : ByteArray) : (s.toList == t.toList) = decide (s = t) := by
  by_cases h : s = t
  · subst h; simp
  · rw [beq_ne h]; simp [h]

set_option maxHeartbeats 1000000 in
theorem index_any (ao : Option Addr) (b off n c : Nat) (ls : List ByteArray) (v : ByteArray) (w : World) (hn : n = ls.length) (hm : n ≤ maxLen) (ht : Strs w ao b off ls) :
    Calls Tryz.prog 128 #[.slice ao n c, .string v] w fun e w' => e = .returned (.int .i64 (Act.posI ls v)) ∧ w' = w := by
  have HL : Hid (n = ls.length) := hn
  clear hn
  unfold maxLen at hm
  go_enter Tryz.func128, Tryz.ntmps128
  go_wp2
  go_loopw [8] (fun i wr => ∃ k : Nat, k ≤ n ∧ i = .int .i64 k ∧ v ∉ ls.take k ∧ wr = w) (fun i _ => n - (intOf i).toNat)
  case atStart => exact ⟨0, Nat.zero_le _, rfl, by simp, rfl⟩
  case round =>
    obtain ⟨k, hk, rfl, hnot, hw⟩ := hrel
    subst hw
    have HN : Hid (v ∉ ls.take k) := hnot
    clear hnot
    by_cases hlt : k < n
    · have hl0 := HL.out
      have hao := ht.adr (by omega)
      subst hao
      have hkl : k < ls.length := by omega
      have f0 := ht.cell k hkl
      obtain ⟨x, hx⟩ : ∃ x, x = ls[k] := ⟨_, rfl⟩
      rw [← hx] at f0
      clear hl0
      by_cases e : v = x
      · have HP : Hid (Act.posI ls v = (k : Int)) := Act.posI_hit hkl HN.out (by rw [← hx, e])
        clear hx
        subst e
        go_wp2
        go_ret
        refine ⟨?_, rfl⟩
        rw [HP.out]; rfl
      · have e' := beq_ne e
        have HX : Hid (v ∉ ls.take (k + 1)) := Act.not_take_succ hkl HN.out (by rw [← hx]; exact fun g => e g.symm)
        clear hx e
        go_wp2
        go_roundw
        case rel => exact ⟨k + 1, by omega, by go_num, HX.out, trivial⟩
        case measure => simp [intOf]; omega
    · have HP : Hid (Act.posI ls v = -1) := Act.posI_not (by
        have := HN.out
        rwa [List.take_of_length_le (by have := HL.out; omega)] at this)
      go_wp2
      go_ret
      refine ⟨?_, rfl⟩
      rw [HP.out]; rfl

theorem index_gen {ao : Option Addr} {b off n c : Nat} {ls : List ByteArray} {v : ByteArray} {w : World} (HL : Hid (n = ls.length)) (hm : n ≤ 6) (ht : Strs w ao b off ls) :
    Calls Tryz.prog 128 #[.slice ao n c, .string v] w fun e w' => e = .returned (.int .i64 (Act.posI ls v)) ∧ w' = w :=
  index_any ao b off n c ls v w HL.out (by unfold maxLen; omega) ht

theorem contains_any (ao : Option Addr) (b off n c : Nat) (ls : List ByteArray) (v : ByteArray) (w : World) (hn : n = ls.length) (hm : n ≤ maxLen) (ht : Strs w ao b off ls) :
    Calls Tryz.prog 86 #[.slice ao n c, .string v] w fun e w' => e = .returned (.bool (Act.has ls v)) ∧ w' = w := by
  rw [← Act.posI_geq]
  have HI := index_any ao b off n c ls v w hn hm ht
  clear hm hn ht
  obtain ⟨p, hp⟩ : ∃ p, p = Act.posI ls v := ⟨_, rfl⟩
  rw [← hp] at HI ⊢
  have HK : Hid (Calls Tryz.prog 128 #[.slice ao n c, .string v] w fun e w' => e = .returned (.int .i64 p) ∧ w' = w) := HI
  clear HI hp
  go_enter Tryz.func86, Tryz.ntmps86
  go_wp2_with fail
  refine HK.out.mono ?_
  rintro e w1 ⟨rfl, hw⟩
  have hw' := hw.symm
  subst hw'
  go_wp2
  go_ret
  exact ⟨rfl, rfl⟩
end Go.Proofs.YtcdeicfegfedfaaGreatDoor
