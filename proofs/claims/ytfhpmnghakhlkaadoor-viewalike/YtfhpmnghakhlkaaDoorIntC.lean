/- Rows of numbers, and rows of such rows; slices.Equal at numbers; slices.Equal of two lists tells whether they are the same. -/
import Derived.Test.YtfhpmnghakhlkaaDoorOwnC
import Derived.BigQuiet
namespace Go.Proofs.YtfhpmnghakhlkaaDoor
open Go.RowKit

structure Ints (w : World) (ao : Option Addr) (b off : Nat) (l : List Int) : Prop where
  adr : 0 < l.length → ao = some ⟨b, off, none⟩
  cell : ∀ k (h : k < l.length), w.cell? ⟨b, off + k, none⟩ = some (.int .i64 l[k])
  lt : 0 < l.length → b < w.heap.size
theorem Ints.later {w w' : World} {ao : Option Addr} {b off : Nat} {l : List Int} (h : Ints w ao b off l) (hb : Below w.heap.size w w') : Ints w' ao b off l :=
  ⟨h.adr, fun k hk => (hb.cell (p := ⟨b, off + k, none⟩) (h.lt (by omega))).trans (h.cell k hk), fun hn => Nat.lt_of_lt_of_le (h.lt hn) hb.size⟩
/- A list of numbers, by its value. -/
def IntsAt (w : World) (v : Value) (l : List Int) : Prop := ∃ io ib ioff ic, v = .slice io l.length ic ∧ l.length ≤ maxLen ∧ Ints w io ib ioff l
theorem IntsAt.later {w w' : World} {v : Value} {l : List Int} (h : IntsAt w v l) (hb : Below w.heap.size w w') : IntsAt w' v l := by
  obtain ⟨io, ib, ioff, ic, h1, h2, h3⟩ := h
  exact ⟨io, ib, ioff, ic, h1, h2, h3.later hb⟩
structure InV (w : World) (ao : Option Addr) (b off : Nat) (ll : List (List Int)) : Prop where
  adr : 0 < ll.length → ao = some ⟨b, off, none⟩
  at' : ∀ k (h : k < ll.length), ∃ v, w.cell? ⟨b, off + k, none⟩ = some v ∧ IntsAt w v ll[k]
  lt : 0 < ll.length → b < w.heap.size
theorem InV.later {w w' : World} {ao : Option Addr} {b off : Nat} {ll : List (List Int)} (h : InV w ao b off ll) (hb : Below w.heap.size w w') : InV w' ao b off ll := by
  refine ⟨h.adr, fun k hk => ?_, fun hn => Nat.lt_of_lt_of_le (h.lt hn) hb.size⟩
  obtain ⟨v, h1, h2⟩ := h.at' k hk
  exact ⟨v, (hb.cell (p := ⟨b, off + k, none⟩) (h.lt (by omega))).trans h1, h2.later hb⟩

theorem drop_eq {α : Type} [DecidableEq α] {l m : List α} {k : Nat} (hk : k < l.length) (hm : k < m.length) : (decide (l.drop k = m.drop k)) = (decide (l[k] = m[k]) && decide (l.drop (k + 1) = m.drop (k + 1))) := by
  have key : ∀ (x y : α) (r s : List α), decide (x :: r = y :: s) = (decide (x = y) && decide (r = s)) := by
    intro x y r s
    by_cases h1 : x = y <;> by_cases h2 : r = s <;> simp [h1, h2]
  rw [List.drop_eq_getElem_cons hk, List.drop_eq_getElem_cons hm]
  exact key _ _ _ _

set_option maxHeartbeats 1000000 in
theorem eqInts (ao bo : Option Addr) (b off b' off' n n' c d : Nat) (l m : List Int) (w : World) (hn : n = l.length) (hn' : n' = m.length) (hm : n ≤ maxLen) (hm' : n' ≤ maxLen) (h1 : Ints w ao b off l) (h2 : Ints w bo b' off' m) :
    Calls Tryd.prog 20 #[.slice ao n c, .slice bo n' d] w fun e w' => e = .returned (.bool (decide (l = m))) ∧ ∃ q, w' = w.drewN q := by
  have HN : Hid (n = l.length) := hn
  have HN' : Hid (n' = m.length) := hn'
  unfold maxLen at hm hm'
  clear hn hn'
  by_cases hnn : n = n'
  · subst hnn
    go_enter Tryd.func20, Tryd.ntmps20
    go_wp2
    go_loopw [13] (fun i wr => ∃ k : Nat, k ≤ n ∧ i = .int .i64 k ∧ Hid (decide (l.drop k = m.drop k) = decide (l = m)) ∧ ∃ q, wr = w.drewN q) (fun i _ => n - (intOf i).toNat)
    case atStart => exact ⟨0, Nat.zero_le _, rfl, by show _ = _; simp, 0, rfl⟩
    case round =>
      obtain ⟨k, hk, rfl, HK, q, rfl⟩ := hrel
      by_cases hlt : k < n
      · have hkl : k < l.length := by have := HN.out; omega
        have hkm : k < m.length := by have := HN'.out; omega
        have e1 := h1.adr (by omega)
        have e2 := h2.adr (by omega)
        have f1 := h1.cell k hkl
        have f2 := h2.cell k hkm
        have hst := drop_eq hkl hkm
        obtain ⟨x, hx⟩ : ∃ x, x = l[k] := ⟨_, rfl⟩
        obtain ⟨y, hy⟩ : ∃ y, y = m[k] := ⟨_, rfl⟩
        rw [← hx] at f1 hst
        rw [← hy] at f2 hst
        clear hx hy
        subst e1 e2
        by_cases hxy : x = y
        · have HE : Hid (decide (l.drop (k + 1) = m.drop (k + 1)) = decide (l = m)) := by show _ = _; rw [← HK.out, hst, decide_eq_true hxy, Bool.true_and]
          have bn : (x != y) = false := by simp [hxy]
          have bq : (x == y) = true := by simp [hxy]
          clear hst
          subst hxy
          go_wp2
          go_quiet (fail)
          go_wp2
          go_roundw
          case rel => exact ⟨k + 1, by omega, by go_num, HE, q + nq, by simp⟩
          case measure => simp [intOf]; omega
        · have HE : Hid (decide (l = m) = false) := by show _ = _; rw [← HK.out, hst, decide_eq_false hxy, Bool.false_and]
          have bn : (x != y) = true := by simp [hxy]
          have bq : (x == y) = false := by simp [hxy]
          clear hst hxy
          go_wp2
          go_quiet (fail)
          go_wp2
          go_ret
          refine ⟨?_, q + nq, by simp⟩
          rw [HE.out]; rfl
      · have HE : Hid (decide (l = m) = true) := by
          show _ = _
          rw [← HK.out, List.drop_of_length_le (by have := HN.out; omega), List.drop_of_length_le (by have := HN'.out; omega)]; rfl
        go_wp2
        go_ret
        refine ⟨?_, q, rfl⟩
        rw [HE.out]; rfl
  · have HE : Hid (decide (l = m) = false) := by
      show _ = _
      refine decide_eq_false fun e => hnn ?_
      rw [HN.out, HN'.out, e]
    rw [HE.out]
    have bn : ((n : Int) == (n' : Int)) = false := by simp; omega
    have bb : ((n : Int) != (n' : Int)) = true := by simp; omega
    go_enter Tryd.func20, Tryd.ntmps20
    go_wp2
    go_ret
    exact ⟨rfl, 0, rfl⟩
end Go.Proofs.YtfhpmnghakhlkaaDoor
