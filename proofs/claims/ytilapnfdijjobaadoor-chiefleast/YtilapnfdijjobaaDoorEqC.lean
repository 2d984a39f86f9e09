/- slices.Equal at rows of pairs: two rows that hold the same are told to be equal. From a row that a call owns to its cells. -/
import Derived.Test.YtilapnfdijjobaaDoorLeastP
import Derived.BigQuiet
import Derived.ChangeKeysEq
namespace Go.Proofs.YtilapnfdijjobaaDoor
open Go.RowKit

theorem below_drewN (w : World) (m : Nat) : Below w.heap.size w (w.drewN m) := ⟨rfl, rfl, rfl, Nat.le_refl _, fun _ _ => rfl⟩

theorem equal_pair (x1 x2 y1 y2 : ByteArray) (w : World) : (Op.equal 48 (.agg #[.string x1, .string x2]) (.agg #[.string y1, .string y2])).run Tryd.prog w = .ok (x1.toList == y1.toList && x2.toList == y2.toList) w := by
  obtain ⟨i0, hi, _⟩ := info_parts Tryd.infoStr
  have hc : Tryd.prog.cellsOf 9 = 1 := by kernel_rfl
  show (Op.equalIn (9998 + 1 + 1) 48 _ _).run _ _ = _
  rw [run_equalIn_array w (9998 + 1) _ _ Tryd.underlying48 hi, hc]
  simp only [show List.range 2 = [0, 1] from rfl, Op.eqItems, Sem.run_bind, part, go_sem, Nat.zero_mul, Nat.one_mul]
  simp [run_equalIn_string w _ 9 _ _ Tryd.underlying9, go_sem]
  split
  · split <;> simp_all
  · simp_all
theorem neq_same (x1 x2 : ByteArray) (w : World) : (binOp .neq 48 (.agg #[.string x1, .string x2]) (.agg #[.string x1, .string x2])).run Tryd.prog w = .ok (.bool false) w := by
  show (Bind.bind (Op.equal 48 (.agg #[.string x1, .string x2]) (.agg #[.string x1, .string x2])) fun r => (Pure.pure (Value.bool (!r)) : Sem Value)).run Tryd.prog w = _
  simp [equal_pair]
theorem guard_none (x y : Operand) (a b : Array Value) (w : World) : (eqGuard .neq 48 x y (.agg a) (.agg b)).run Tryd.prog w = .ok () w := by
  have : Tryd.prog.eqGuardType Tryd.prog.depth 48 = false := by kernel_rfl
  simp [eqGuard, this, go_sem]

set_option maxHeartbeats 1000000 in
theorem eqPr (ao bo : Option Addr) (b off b' off' n c d : Nat) (ps : List (ByteArray × ByteArray)) (w : World) (hn : n = ps.length) (hm : n ≤ 1000) (h1 : Prs w ao b off ps) (h2 : Prs w bo b' off' ps) :
    Calls Tryd.prog 26 #[.slice ao n c, .slice bo n d] w fun e w' => e = .returned (.bool true) ∧ Below w.heap.size w w' := by
  have HL : Hid (n = ps.length) := hn
  clear hn
  go_enter Tryd.func26, Tryd.ntmps26
  go_wp2
  go_loopw [13] (fun i wr => ∃ k : Nat, k ≤ n ∧ i = .int .i64 k ∧ ∃ m, wr = w.drewN m) (fun i _ => n - (intOf i).toNat)
  case atStart => exact ⟨0, Nat.zero_le _, rfl, 0, rfl⟩
  case round =>
    obtain ⟨k, hk, rfl, m, rfl⟩ := hrel
    by_cases hlt : k < n
    · have hl0 := HL.out
      have hkl : k < ps.length := by omega
      have e1 := h1.adr (by omega)
      have e2 := h2.adr (by omega)
      have f1 := h1.c0 k hkl
      have f2 := h2.c0 k hkl
      have g1 := h1.c1 k hkl
      have g2 := h2.c1 k hkl
      obtain ⟨x, hx⟩ : ∃ x, x = ps[k] := ⟨_, rfl⟩
      rw [← hx] at f1 f2 g1 g2
      obtain ⟨x1, x2⟩ := x
      simp only at f1 f2 g1 g2
      subst e1 e2
      clear hl0 hx
      have q1 := fun wx => neq_same x1 x2 wx
      have q2 := fun x y wx => guard_none x y #[.string x1, .string x2] #[.string x1, .string x2] wx
      go_wp2
      go_quiet (fail)
      go_wp2
      go_roundw
      case rel => exact ⟨k + 1, by omega, by go_num, m + nq, by simp⟩
      case measure => simp [intOf]; omega
    · go_wp2
      go_ret
      exact ⟨rfl, below_drewN _ _⟩

theorem strs_of_own {w : World} {B : Nat} {v : Value} {l : List ByteArray} (h : w.ownsRow B 9 1 v l.length (strC l)) :
    ∃ ao b cap, v = .slice ao l.length cap ∧ l.length ≤ cap ∧ cap ≤ maxLen ∧ Strs w ao b 0 l := by
  rcases h.2 with ⟨hv, h0⟩ | ⟨g, cap, cur, hv, hg, hh, hc1, hc2, hsz, htk⟩
  · exact ⟨none, 0, 0, by rw [hv, h0], by omega, by simp [maxLen], ⟨fun hp => by omega, fun k hk => by omega, fun hp => by omega⟩⟩
  · refine ⟨some ⟨g, 0, none⟩, g, cap, hv, hc1, hc2, ⟨fun _ => rfl, fun k hk => ?_, fun _ => lt_of_block hh⟩⟩
    have hu : (strC l)[k]? = some (.string l[k]) := by simp [strC, hk]
    rw [← htk, List.getElem?_take, if_pos (by omega)] at hu
    rw [Nat.zero_add]
    simp [World.cell?, hh]
    simpa using hu
theorem prC_at (l : List (ByteArray × ByteArray)) (k : Nat) (h : k < l.length) : (prC l)[k * 2]? = some (.string l[k].1) ∧ (prC l)[k * 2 + 1]? = some (.string l[k].2) := by
  induction l generalizing k with
  | nil => simp at h
  | cons a r ih =>
    have e : prC (a :: r) = .string a.1 :: .string a.2 :: prC r := rfl
    rw [e]
    match k with
    | 0 => exact ⟨rfl, rfl⟩
    | j + 1 =>
      obtain ⟨h0, h1⟩ := ih j (by simpa using h)
      have e3 : (j + 1) * 2 = j * 2 + 1 + 1 := by omega
      rw [e3]
      exact ⟨by simpa using h0, by simpa using h1⟩
theorem prs_of_own {w : World} {B : Nat} {v : Value} {l : List (ByteArray × ByteArray)} (h : w.ownsRow B 48 2 v l.length (prC l)) :
    ∃ ao b cap, v = .slice ao l.length cap ∧ l.length ≤ cap ∧ cap ≤ maxLen ∧ Prs w ao b 0 l := by
  rcases h.2 with ⟨hv, h0⟩ | ⟨g, cap, cur, hv, hg, hh, hc1, hc2, hsz, htk⟩
  · exact ⟨none, 0, 0, by rw [hv, h0], by omega, by simp [maxLen], ⟨fun hp => by omega, fun k hk => by omega, fun k hk => by omega, fun hp => by omega⟩⟩
  · have key : ∀ i u, (prC l)[i]? = some u → i < l.length * 2 → w.cell? ⟨g, 0 + i, none⟩ = some u := by
      intro i u hu hi
      rw [← htk, List.getElem?_take] at hu
      simp only [hi, if_true] at hu
      rw [Nat.zero_add]
      simp [World.cell?, hh]
      simpa using hu
    refine ⟨some ⟨g, 0, none⟩, g, cap, hv, hc1, hc2, ⟨fun _ => rfl, fun k hk => key _ _ (prC_at l k hk).1 (by omega), fun k hk => ?_, fun _ => lt_of_block hh⟩⟩
    have := key _ _ (prC_at l k hk).2 (by omega); rwa [← Nat.add_assoc] at this
end Go.Proofs.YtilapnfdijjobaaDoor
