/- What the document's own functions ask of labels and pairs, out of what is right. -/
import Derived.Test.YtfhpmnghakhlkaaDoorRefK
namespace Go.Proofs.YtfhpmnghakhlkaaDoor
open Go.RowKit
theorem labs_oneV {w : World} {sb : Nat} {lo : Option Addr} {lb loff ln lc : Nat} {x : List Pol} (h : w.heap[sb]? = some (.cells #[.slice lo ln lc] 33 (0, 0))) (hx : LabAt w lo lb loff ln lc x) : LabsAt w sb 1 [x] := by
  refine ⟨rfl, lt_of_block h, fun k hk => ?_⟩
  match k, hk with
  | 0, _ => exact ⟨lo, lb, loff, ln, lc, by simp [World.cell?, h], hx⟩
theorem good_ofV {w : World} {lo : Option Addr} {lb loff ln lc : Nat} {ls : List ByteArray} {x : List Pol} (hx : LabAt w lo lb loff ln lc x) (h : chk1 ls x = 0) : Good w lo lb loff ln ls x := by
  have h' : x.length ≤ 200 ∧ chkL ls x = 0 := by
    unfold chk1 at h
    split at h
    · cases h
    · rename_i h2; exact ⟨by omega, h⟩
  obtain ⟨h2, h3⟩ := chkL_ok h'.2
  exact ⟨hx.ln, by have := hx.ln; omega, hx.pols, h2, fun p hp => by have := h3 p hp; omega⟩
theorem pairs_ofV {w : World} {ao po : Option Addr} {b off b' off' n m c : Nat} {ls : List ByteArray} {ps : List (ByteArray × ByteArray)} (hc : Chiefs w ao po b off b' off' n m c ls ps) (h : checkF ls ps = 0) : Pairs w po b' off' m ps := by
  obtain ⟨_, h2, _, _⟩ := right_of h
  exact ⟨hc.lm, by have := hc.lm; omega, hc.prs⟩
end Go.Proofs.YtfhpmnghakhlkaaDoor
