/- Who sees what, in the words of the document's own functions. -/
import Derived.Test.YtfhpmnghakhlkaaDoorEyeC
import Derived.Test.YtfhpmnghakhlkaaDoorRefK
namespace Go.Proofs.YtfhpmnghakhlkaaDoor
open Go.RowKit
theorem sees_chkQ {ls : List ByteArray} {ps : List (ByteArray × ByteArray)} {who : ByteArray} (h0 : checkF ls ps = 0) (hw : Act.has ls who = true) (x : List Pol) : seesE ls ps who x = chk1 ls x := by
  have e : checkL ls ps x = chk1 ls x := by unfold checkL chk1; rw [if_pos h0]
  unfold seesE
  rw [e]
  by_cases h : chk1 ls x = 0
  · rw [if_pos h, if_pos hw, h]
  · rw [if_neg h]
theorem sees_hasQ {ls : List ByteArray} {ps : List (ByteArray × ByteArray)} {who : ByteArray} {x : List Pol} (h : seesE ls ps who x = 0) : Act.has (Lab.readsF ls ps x) who = seesV ls ps who x := by
  obtain ⟨h1, hw⟩ := seesE_zero h
  obtain ⟨h0, _, g1, _⟩ := checkL_ok h1
  obtain ⟨_, _, hr, _⟩ := right_of h0
  have k1 : Act.has (Lab.readsF ls ps x) who = true ↔ Lab.reads ps x who := by rw [Act.has_iff, Lab.readsF_mem hr g1]; exact ⟨fun h => h.2, fun h => ⟨hw, h⟩⟩
  have k2 := sees_iff h
  cases hv : seesV ls ps who x with
  | true => exact k1.2 (k2.1 hv)
  | false =>
    cases hq : Act.has (Lab.readsF ls ps x) who with
    | false => rfl
    | true => rw [k2.2 (k1.1 hq)] at hv; cases hv

end Go.Proofs.YtfhpmnghakhlkaaDoor
