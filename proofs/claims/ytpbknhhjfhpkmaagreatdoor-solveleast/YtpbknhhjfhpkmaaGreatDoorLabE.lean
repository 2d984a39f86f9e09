/- What is wrong with a label; what Flows and Reads answer. -/
import Derived.Test.YtpbknhhjfhpkmaaGreatDoorActsC
import Derived.Test.YtpbknhhjfhpkmaaGreatDoorGaLab
namespace Go.Proofs.YtpbknhhjfhpkmaaGreatDoor
open Go.RowKit
abbrev Pol := ByteArray × List ByteArray

def amongF (ls l : List ByteArray) : Int := if 6 < l.length then 2 else if l.all (fun s => Act.has ls s) = true then 0 else 5
def chkL (ls : List ByteArray) : List Pol → Int
  | [] => 0
  | p :: r => if amongF ls p.2 = 0 then (if Act.has ls p.1 = true then chkL ls r else 5) else amongF ls p.2
def checkL (ls : List ByteArray) (ps : List (ByteArray × ByteArray)) (x : List Pol) : Int :=
  if checkF ls ps = 0 then (if 200 < x.length then 2 else chkL ls x) else checkF ls ps
def bothL (ls : List ByteArray) (ps : List (ByteArray × ByteArray)) (a b : List Pol) : Int := if checkL ls ps a = 0 then checkL ls ps b else checkL ls ps a
def flowsV (ls : List ByteArray) (ps : List (ByteArray × ByteArray)) (a b : List Pol) : Bool := decide (bothL ls ps a b = 0) && Lab.flowsB ls ps a b
def readsV (ls : List ByteArray) (ps : List (ByteArray × ByteArray)) (x : List Pol) : List ByteArray := if checkL ls ps x = 0 then Lab.readsF ls ps x else []

theorem among_ok {ls l : List ByteArray} (h : amongF ls l = 0) : l.length ≤ 6 ∧ ∀ s ∈ l, s ∈ ls := by
  unfold amongF at h
  split at h
  · cases h
  · rename_i hl
    split at h
    · rename_i ha
      rw [List.all_eq_true] at ha
      exact ⟨by omega, fun s hs => Act.has_iff.1 (ha s hs)⟩
    · cases h
theorem among_of {ls l : List ByteArray} (h : l.length ≤ 6) (hs : ∀ s ∈ l, s ∈ ls) : amongF ls l = 0 := by
  unfold amongF
  rw [if_neg (by omega), if_pos (List.all_eq_true.2 fun s h => Act.has_iff.2 (hs s h))]
theorem chkL_ok {ls : List ByteArray} : ∀ {x : List Pol}, chkL ls x = 0 → Lab.OfL ls x ∧ ∀ p ∈ x, p.2.length ≤ 6
  | [], _ => ⟨(fun p hp => by cases hp), (fun p hp => by cases hp)⟩
  | p :: r, h => by
    rw [chkL] at h
    split at h
    · rename_i h1
      split at h
      · rename_i h2
        obtain ⟨i1, i2⟩ := chkL_ok h
        obtain ⟨g1, g2⟩ := among_ok h1
        refine ⟨fun q hq => ?_, fun q hq => ?_⟩
        · rcases List.mem_cons.1 hq with e | e
          · subst e; exact ⟨Act.has_iff.1 h2, g2⟩
          · exact i1 q e
        · rcases List.mem_cons.1 hq with e | e
          · subst e; exact g1
          · exact i2 q e
      · cases h
    · rename_i h1; exact absurd h h1
theorem chkL_of {ls : List ByteArray} : ∀ {x : List Pol}, Lab.OfL ls x → (∀ p ∈ x, p.2.length ≤ 6) → chkL ls x = 0
  | [], _, _ => rfl
  | p :: r, h, g => by
    have h1 := h p (by simp)
    rw [chkL, if_pos (among_of (g p (by simp)) h1.2), if_pos (Act.has_iff.2 h1.1)]
    exact chkL_of (fun q hq => h q (by simp [hq])) (fun q hq => g q (by simp [hq]))
theorem checkL_ok {ls : List ByteArray} {ps : List (ByteArray × ByteArray)} {x : List Pol} (h : checkL ls ps x = 0) : checkF ls ps = 0 ∧ x.length ≤ 200 ∧ Lab.OfL ls x ∧ ∀ p ∈ x, p.2.length ≤ 6 := by
  unfold checkL at h
  split at h
  · rename_i h0
    split at h
    · cases h
    · rename_i hl
      obtain ⟨g1, g2⟩ := chkL_ok h
      exact ⟨h0, by omega, g1, g2⟩
  · rename_i h0; exact absurd h h0
theorem checkL_of {ls : List ByteArray} {ps : List (ByteArray × ByteArray)} {x : List Pol} (h0 : checkF ls ps = 0) (hl : x.length ≤ 200) (h1 : Lab.OfL ls x) (h2 : ∀ p ∈ x, p.2.length ≤ 6) : checkL ls ps x = 0 := by
  unfold checkL
  rw [if_pos h0, if_neg (by omega), chkL_of h1 h2]
theorem both_ok {ls : List ByteArray} {ps : List (ByteArray × ByteArray)} {a b : List Pol} (h : bothL ls ps a b = 0) : checkL ls ps a = 0 ∧ checkL ls ps b = 0 := by
  unfold bothL at h
  split at h
  · rename_i h0; exact ⟨h0, h⟩
  · rename_i h0; exact absurd h h0
theorem both_of {ls : List ByteArray} {ps : List (ByteArray × ByteArray)} {a b : List Pol} (h : checkL ls ps a = 0) (g : checkL ls ps b = 0) : bothL ls ps a b = 0 := by
  unfold bothL; rw [if_pos h, g]
theorem flowsV_iff {ls : List ByteArray} {ps : List (ByteArray × ByteArray)} {a b : List Pol} (h : bothL ls ps a b = 0) : flowsV ls ps a b = true ↔ Lab.mayGo ps a b := by
  obtain ⟨h1, h2⟩ := both_ok h
  obtain ⟨h0, _, g1, _⟩ := checkL_ok h1
  obtain ⟨_, _, g2, _⟩ := checkL_ok h2
  obtain ⟨_, _, hr, _⟩ := right_of h0
  rw [← Lab.flows_iff hr g1 g2]
  simp [flowsV, h]
theorem readsV_mem {ls : List ByteArray} {ps : List (ByteArray × ByteArray)} {x : List Pol} (h : checkL ls ps x = 0) {c : ByteArray} : c ∈ readsV ls ps x ↔ c ∈ ls ∧ Lab.reads ps x c := by
  obtain ⟨h0, _, g1, _⟩ := checkL_ok h
  obtain ⟨_, _, hr, _⟩ := right_of h0
  rw [← Lab.readsF_mem hr g1]
  simp [readsV, h]
end Go.Proofs.YtpbknhhjfhpkmaaGreatDoor
