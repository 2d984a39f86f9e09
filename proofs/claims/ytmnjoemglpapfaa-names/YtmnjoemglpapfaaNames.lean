/- Proved: called with nothing, in whatever memory and on every schedule, the law Names returns true (each constant has its value). No condition. -/
import Derived.Test.YtmnjoemglpapfaaRows
import Derived.WalkKit
import Derived.ProofKit
import Derived.OpenShut
import Derived.Test.YtmnjoemglpapfaaEqInts
namespace Go.Proofs.Ytmnjoemglpapfaa.names
open Go.ChangeShapes Go.WideShapes Go.ChangeAt Go.RowKit

theorem own : ownKnob Try.prog.godebug = none := by kernel_rfl

theorem lit_cell (w : World) (zs : List Int) (t : TypeId) (b k : Nat) (hb : b = w.heap.size) (hk : k < zs.length) : (w.alloc (.cells (zs.map (Value.int .i64)).toArray t)).cell? ⟨b, k, none⟩ = some (.int .i64 (zs[k]?.getD 0)) := by
  subst hb; simp [hk]
theorem lit_past (w : World) (o : Obj) (b k : Nat) (v : Value) (h : w.cell? ⟨b, k, none⟩ = some v) : (w.alloc o).cell? ⟨b, k, none⟩ = some v := by
  rw [World.cell?_alloc_past o b k (World.block_lt_of_cell? w _ h)]; exact h

theorem grown_drewN {W w : World} {n : Nat} (h : Grown W w) : Grown W (w.drewN n) := h
def errs : List Int := [0, 1, 2, 3, 4, 5, 6, 7, 8, 9]
def lims : List Int := [4000, 600, 12, 12, 6, 10, 200, 6, 6, 4, 20, 3000, 30, 60, 400]
def knds : List Int := [1, 2, 3, 4, 0, 1, 2, 1, 2, 3, 4, 5, 1, 2, 3, 4, 5, 6, 7, 8]
theorem errs_at (k : Nat) (h : k < 10) : errs[k]?.getD 0 = (k : Int) := by
  match k, h with
  | 0, _ | 1, _ | 2, _ | 3, _ | 4, _ | 5, _ | 6, _ | 7, _ | 8, _ | 9, _ => rfl

set_option maxHeartbeats 1000000 in
theorem walk  (w : World) :
    Calls Try.prog 3 #[] w fun e w' => e = .returned (.bool true) ∧ Grown w w' := by
  go_enter Try.func3, Try.ntmps3
  go_wp2
  go_loop [9] (fun i => ∃ k : Nat, k ≤ 10 ∧ i = .int .i64 k) (fun i => 10 - (intOf i).toNat)
  case atStart => exact ⟨0, Nat.zero_le _, rfl⟩
  case round =>
    obtain ⟨k, hk, rfl⟩ := hrel
    by_cases hlt : k < 10
    · have g1 : (w.alloc (.cells #[.int .i64 0, .int .i64 1, .int .i64 2, .int .i64 3, .int .i64 4, .int .i64 5, .int .i64 6, .int .i64 7, .int .i64 8, .int .i64 9] 22)).cell? ⟨w.heap.size, k, none⟩ = some (.int .i64 (k : Int)) := by
        rw [← errs_at k hlt]; exact lit_cell w errs 22 _ k rfl hlt
      go_wp2
      go_round
      case rel => exact ⟨k + 1, by omega, by go_num⟩
      case measure => simp [intOf]; omega
    · go_wp2_with fail
      refine (eqInts _ _ _ _ _ lims _ (by decide) rfl (fun k hk => ?_) (fun k hk => ?_)).mono ?_
      · exact lit_past _ _ _ _ _ (lit_past _ _ _ _ _ (lit_cell _ lims _ _ _ (by simp) hk))
      · exact lit_cell _ lims _ _ _ (by simp) hk
      rintro e w1 ⟨rfl, m, rfl⟩
      go_wp2_with fail
      refine (eqInts _ _ _ _ _ knds _ (by decide) rfl (fun k hk => ?_) (fun k hk => ?_)).mono ?_
      · show (World.alloc _ _).cell? _ = _
        exact lit_past _ _ _ _ _ (lit_past _ _ _ _ _ (lit_cell _ knds _ _ _ (by simp) hk))
      · show (World.alloc _ _).cell? _ = _
        exact lit_cell _ knds _ _ _ (by simp) hk
      rintro e w1 ⟨rfl, m2, rfl⟩
      go_wp2
      go_ret
      exact ⟨rfl, by repeat (first | exact Grown.refl _ | apply grown_drewN | apply Grown.alloc)⟩

set_option maxRecDepth 100000 in
theorem lifted (os : Os) (started : os.Started) (H : Type) (enc : TypeId × Value → H) :
    ReturnsInHanded {} Try.checked os 3 .any (Rows.namesSpec.pre6 enc Try.prog Try.f3 Rows.namesRow.domain false) (Rows.namesSpec.post enc Try.prog Try.f3 false true false false) := by
  refine returnsInHanded_of_change (C := Try.checked) own started (by kernel_rfl) Try.func3
    (ChangeSpec.witness6 (enc := enc) (C := Try.checked) false ⟨#[], #[], []⟩ 8 (by kernel_rfl) (by kernel_rfl) (by kernel_rfl) (by kernel_rfl)) ?_
  intro W base args ds gs before _ hW _ _
  have hW' := hW
  obtain ⟨p, q, hA0, hV, rfl, _, _⟩ := hW
  have hA : DataW.TrodAll enc Try.prog W 0 (fun _ => true) true Try.f3.params.toList args.toList ds p := hA0
  rw [Try.params3] at hA
  obtain ⟨rfl, rfl, rfl⟩ := trodAll_none hA
  obtain ⟨rfl, rfl⟩ := trodVars_none hV
  clear hA0
  simp only [List.append_nil] at hW'
  refine (walk  W).mono fun e W' ⟨he, hg⟩ => ?_
  subst he
  exact ⟨_, rfl, post_of_same (pa := []) (pv := []) hW' (fun _ _ _ => (trodAll_cons_mk (shut_bool Try.underlying4 _) trodAll_mk0)) (fun _ _ => rfl) (fun _ _ => rfl) rfl
    (hg.frame _) hg.2.1 (ok_one (by kernel_rfl) rfl (okWide_bool_mk Try.underlying4 _))⟩

theorem over : Rows.namesRow.holds Try.pinned (OpenSpec.ofChange Rows.namesSpec) :=
  OpenClaim.holds_of_wide 3 Try.f3 rfl rfl rfl rfl rfl rfl rfl ⟨rfl, rfl, rfl, rfl, rfl⟩ rfl rfl rfl rfl rfl (by kernel_rfl) Try.func3 (by kernel_rfl)
    (of_decide_eq_true (by kernel_rfl)) (by unfold Func.isWrapper; first | (rw [if_pos (by decide +kernel)]; kernel_rfl) | (rw [if_neg (by decide +kernel)]; exact ⟨rfl, rfl⟩))
    (fun os started H enc _ => lifted os started H enc)

theorem proved : Rows.NamesSaid :=
  over
end Go.Proofs.Ytmnjoemglpapfaa.names
namespace Go.Proofs.Ytmnjoemglpapfaa
theorem names_holds : Rows.NamesSaid := names.proved
#print axioms names_holds
end Go.Proofs.Ytmnjoemglpapfaa
