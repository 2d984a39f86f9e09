/- slices.Clone and slices.Delete at rows of pairs; the law's at. -/
import Derived.Test.YtilapnfdijjobabEqC
import Derived.Deep.RegionLaw
import Derived.Lib.SliceRun
import Derived.Laws.Cover3
namespace Go.Proofs.Ytilapnfdijjobab
open Go.RowKit

theorem at_any (k : Int) (n : Nat) (w : World) (hn : 0 < n) (hb : n ≤ 1000) :
    Calls Try.prog 8 #[.int .i64 k, .int .i64 n] w fun e w' => (∃ j : Nat, j < n ∧ e = .returned (.int .i64 j)) ∧ w' = w := by
  have hz : ((n : Int) == 0) = false := by simp; omega
  go_enter Try.func8, Try.ntmps8
  go_wp2
  · rename_i hneg
    have hgt := Int.lt_tmod_of_pos k (b := (n : Int)) (by omega)
    have hw : wrap64 (k.tmod n + n) = k.tmod n + n := by unfold wrap64; omega
    go_ret
    rw [hw]
    exact ⟨⟨(k.tmod n + n).toNat, by omega, by rw [Int.toNat_of_nonneg (by omega)]; rfl⟩, rfl⟩
  · rename_i hpos
    have hlt := Int.tmod_lt_of_pos k (b := (n : Int)) (by omega)
    go_ret
    exact ⟨⟨(k.tmod n).toNat, by omega, by rw [Int.toNat_of_nonneg (by omega)]; rfl⟩, rfl⟩

theorem eql_nil (a : Addr) (n c : Nat) (w : World) : (binOp .eql 23 (.slice (some a) n c) (.slice none 0 0)).run Try.prog w = .ok (.bool false) w := by
  show (Bind.bind (Op.equal 23 (.slice (some a) n c) (.slice none 0 0)) fun r => (Pure.pure (Value.bool r) : Sem Value)).run Try.prog w = _
  simp [run_equal_slice_nil w 23 35 (some a) n c Try.underlying23]

theorem prC_len (l : List (ByteArray × ByteArray)) : (prC l).length = l.length * 2 := by
  induction l with
  | nil => rfl
  | cons a r ih =>
    have e : prC (a :: r) = .string a.1 :: .string a.2 :: prC r := rfl
    rw [e]; simp [ih]; omega
theorem prC_one (l : List (ByteArray × ByteArray)) : ∀ u ∈ prC l, u.oneCell' = true := by
  intro u hu
  simp only [prC, List.mem_flatMap] at hu
  obtain ⟨p, _, hp⟩ := hu
  simp at hp
  rcases hp with rfl | rfl <;> rfl
theorem prC_get (l : List (ByteArray × ByteArray)) (j : Nat) (u : Value) (h : (prC l)[j]? = some u) : ∃ k, ∃ hk : k < l.length, (j = k * 2 ∧ u = .string l[k].1) ∨ (j = k * 2 + 1 ∧ u = .string l[k].2) := by
  have hj : j < l.length * 2 := by
    have := (List.getElem?_eq_some_iff.1 h).1
    rwa [prC_len] at this
  have hk : j / 2 < l.length := by omega
  obtain ⟨h0, h1⟩ := prC_at l (j / 2) hk
  refine ⟨j / 2, hk, ?_⟩
  rcases Nat.mod_two_eq_zero_or_one j with e | e
  · left
    have ej : j = j / 2 * 2 := by omega
    rw [← ej, h] at h0
    exact ⟨ej, Option.some.inj h0⟩
  · right
    have ej : j = j / 2 * 2 + 1 := by omega
    rw [← ej, h] at h1
    exact ⟨ej, Option.some.inj h1⟩
theorem prs_cells {w : World} {mb : Nat} {l : List (ByteArray × ByteArray)} (h : Prs w (some ⟨mb, 0, none⟩) mb 0 l) : ∀ j u, (prC l)[j]? = some u → w.cell? ((⟨mb, 0, none⟩ : Addr).add j) = some u := by
  intro j u hu
  have e1 : (⟨mb, 0, none⟩ : Addr).add j = ⟨mb, j, none⟩ := by simp [Addr.add]; intro h; exact h.symm
  rw [e1]
  obtain ⟨k, hk, ⟨rfl, rfl⟩ | ⟨rfl, rfl⟩⟩ := prC_get l j u hu
  · have := h.c0 k hk; rwa [Nat.zero_add] at this
  · have := h.c1 k hk; rwa [Nat.zero_add] at this

set_option maxHeartbeats 1000000 in
theorem cloneP (mb n c : Nat) (l : List (ByteArray × ByteArray)) (w : World) (hn : n = l.length) (hm : n ≤ 1000) (hp : Prs w (some ⟨mb, 0, none⟩) mb 0 l) :
    Calls Try.prog 11 #[.slice (some ⟨mb, 0, none⟩) n c] w fun e w' => ∃ v, e = .returned v ∧ w'.ownsRow w.heap.size 35 2 v l.length (prC l) ∧ Below w.heap.size w w' := by
  have HL : Hid (n = l.length) := hn
  have HP : Hid (Prs w (some ⟨mb, 0, none⟩) mb 0 l) := hp
  clear hn hp
  obtain ⟨i0, hi, hz0, hz1, hz2⟩ := info_parts Try.infoPair
  have hnil := fun wx => eql_nil ⟨mb, 0, none⟩ n c wx
  go_enter Try.func11, Try.ntmps11
  have HO : Hid ((w.alloc (.cells #[] 35)).ownsRow w.heap.size 35 2 (.slice (some ⟨w.heap.size, 0, none⟩) 0 0) 0 []) :=
    ⟨rfl, .inr ⟨w.heap.size, 0, #[], rfl, Nat.le_refl _, heap_at_alloc _ _ _ rfl, Nat.le_refl _, by simp [maxLen], rfl, rfl⟩⟩
  go_wp2_with (at_builtin; refine wpList_append_own _ rfl _ _ 23 rfl w.heap.size 35 i0 (.agg #[.string ⟨#[]⟩, .string ⟨#[]⟩]) 2 32 Try.underlying23 hi hz0 hz1 hz2 rfl (by decide) _ _ _ rfl HO.out ⟨mb, 0, none⟩ n c (prC l) rfl ?c0 ?c1 ?c2 ?c3 ?c4 ?c5 ?_)
  case c0 => rw [prC_len, HL.out]
  case c1 =>
    have hb : Below w.heap.size w (w.alloc (.cells #[] 35)) := (Below.refl _ _).alloc (Nat.le_refl _) _
    exact prs_cells (HP.out.later hb)
  case c2 => exact prC_one l
  case c3 => unfold maxLen; omega
  case c4 => omega
  case c5 => simp
  · intro v' w2 hown2 hgrow2 _
    have HB : Hid (Below w.heap.size w w2) := ((Below.refl w.heap.size w).alloc (Nat.le_refl _) _).grown hgrow2 (by simp) (fun k he => by simp [Value.ownBlock] at he; omega)
    have HW : Hid (w2.ownsRow w.heap.size 35 2 v' n (prC l)) := by
      show World.ownsRow _ _ _ _ _ _ _
      simpa using hown2
    clear hown2 hgrow2
    go_wp2
    go_ret
    refine ⟨_, rfl, ?_, HB.out⟩
    rw [← HL.out]
    exact HW.out
end Go.Proofs.Ytilapnfdijjobab
