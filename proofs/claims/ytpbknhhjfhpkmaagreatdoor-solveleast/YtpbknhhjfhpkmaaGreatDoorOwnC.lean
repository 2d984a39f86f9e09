/- From a row that a call owns to its cells: strings, pairs. -/
import Derived.Test.YtpbknhhjfhpkmaaGreatDoorForC
import Derived.BigQuiet
namespace Go.Proofs.YtpbknhhjfhpkmaaGreatDoor
open Go.RowKit

theorem below_drewN (w : World) (m : Nat) : Below w.heap.size w (w.drewN m) := ⟨rfl, rfl, rfl, Nat.le_refl _, fun _ _ => rfl⟩
def prC (l : List (ByteArray × ByteArray)) : List Value := l.flatMap fun p => [.string p.1, .string p.2]
theorem Tryz.infoPair : (Tryz.prog.info? 115).map (fun i => (i.zero, i.size, i.bytes)) = some (some (.agg #[.string ⟨#[]⟩, .string ⟨#[]⟩]), 2, 32) := by kernel_rfl
theorem strs_of_own {w : World} {B : Nat} {v : Value} {l : List ByteArray} (h : w.ownsRow B 9 1 v l.length (strC l)) :
    ∃ ao b cap, v = .slice ao l.length cap ∧ l.length ≤ cap ∧ cap ≤ maxLen ∧ Strs w ao b 0 l := by
  rcases h.2 with ⟨hv, h0⟩ | ⟨g, cap, cur, hv, hg, hh, hc1, hc2, hsz, htk⟩
  · exact ⟨none, 0, 0, by rw [hv, h0], by omega, by simp [maxLen], ⟨fun hp => by omega, fun k hk => by omega, fun hp => by omega⟩⟩
  · refine ⟨some ⟨g, 0, none⟩, g, cap, hv, hc1, hc2, ⟨fun _ => rfl, fun k hk => ?_, fun _ => lt_of_block hh⟩⟩
    have hu : (strC l)[k]? = some (.string l[k]) := by simp [strC, hk]
    rw [← htk, List.getElem?_take, if_pos (by omega)] at hu
    rw [Nat.zero_add]
    simp [World.cell?, hh]
    simpa using hu
theorem prC_at (l : List (ByteArray × ByteArray)) (k : Nat) (h : k < l.length) : (prC l)[k * 2]? = some (.string l[k].1) ∧ (prC l)[k * 2 + 1]? = some (.string l[k].2) := by
  induction l generalizing k with
  | nil => simp at h
  | cons a r ih =>
    have e : prC (a :: r) = .string a.1 :: .string a.2 :: prC r := rfl
    rw [e]
    match k with
    | 0 => exact ⟨rfl, rfl⟩
    | j + 1 =>
      obtain ⟨h0, h1⟩ := ih j (by simpa using h)
      have e3 : (j + 1) * 2 = j * 2 + 1 + 1 := by omega
      rw [e3]
      exact ⟨by simpa using h0, by simpa using h1⟩
theorem prs_of_own {w : World} {B : Nat} {v : Value} {l : List (ByteArray × ByteArray)} (h : w.ownsRow B 115 2 v l.length (prC l)) :
    ∃ ao b cap, v = .slice ao l.length cap ∧ l.length ≤ cap ∧ cap ≤ maxLen ∧ Prs w ao b 0 l := by
  rcases h.2 with ⟨hv, h0⟩ | ⟨g, cap, cur, hv, hg, hh, hc1, hc2, hsz, htk⟩
  · exact ⟨none, 0, 0, by rw [hv, h0], by omega, by simp [maxLen], ⟨fun hp => by omega, fun k hk => by omega, fun k hk => by omega, fun hp => by omega⟩⟩
  · have key : ∀ i u, (prC l)[i]? = some u → i < l.length * 2 → w.cell? ⟨g, 0 + i, none⟩ = some u := by
      intro i u hu hi
      rw [← htk, List.getElem?_take] at hu
      simp only [hi, if_true] at hu
      rw [Nat.zero_add]
      simp [World.cell?, hh]
      simpa using hu
    refine ⟨some ⟨g, 0, none⟩, g, cap, hv, hc1, hc2, ⟨fun _ => rfl, fun k hk => key _ _ (prC_at l k hk).1 (by omega), fun k hk => ?_, fun _ => lt_of_block hh⟩⟩
    have := key _ _ (prC_at l k hk).2 (by omega); rwa [← Nat.add_assoc] at this
end Go.Proofs.YtpbknhhjfhpkmaaGreatDoor
