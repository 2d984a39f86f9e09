/- Maps from strings to whatever values: what they hold, as a function. The document's level of a sign. A map from numbers, as FormExpr makes it. -/
import Derived.Test.YtcdeicfegfedfaaGreatDoorChecked
import Derived.Test.YtcdeicfegfedfaaGreatDoorGaRow
import Derived.Maps.Own
import Derived.Maps.OwnOps
import Derived.Maps.OwnSet
import Derived.Maps.Views
import Derived.StringKeys
import Derived.WalkKit
import Derived.ProofKit
import Derived.Test.YtcdeicfegfedfaaGreatDoorGaPar
namespace Go.Proofs.YtcdeicfegfedfaaGreatDoor
open Go.RowKit Go.Maps

def valE (v : Value) : Option (DataW Value × List MemPlace) := some (.held v, [])
theorem lawS : Keyed Tryz.prog 9 := string_keyed Tryz.underlying9
theorem valE_inj {u v : Value} {ps : List MemPlace} (h : valE u = some (.held v, ps)) : u = v := by
  simp only [valE, Option.some.injEq, Prod.mk.injEq, DataW.held.injEq] at h
  exact h.1
def klS (s : ByteArray) : Lit := .string s.data.toList
theorem klS_of {s : ByteArray} (h : s.size ≤ maxLen) : keyOf Tryz.prog 9 (.string s) = some (klS s) := Go.WideMaps.keyOf_string_mk Tryz.underlying9 h
theorem klS_lit (s : ByteArray) : WideAt.IsKeyLit (klS s) := trivial
theorem klS_ne {s t : ByteArray} (h : s ≠ t) : klS s ≠ klS t := by
  intro e
  injection e with e
  exact h (ByteArray.ext (Array.ext' e))
/- Block B is a map that holds f. -/
def MapV (w : World) (B N : Nat) (f : ByteArray → Option Value) : Prop := ∃ D : DataW Value, w.ownsMap Tryz.prog 9 valE B N D ∧ ∀ s : ByteArray, s.size ≤ maxLen → has D (klS s) = (f s).isSome ∧ ∀ v, f s = some v → ∀ z, D.atKey (klS s) z = .held v
theorem MapV.made (w : World) : MapV (w.alloc (.map #[] 0)) w.heap.size 0 (fun _ => none) :=
  ⟨_, World.ownsMap_made w _ _ _, fun s _ => ⟨rfl, fun v h => by cases h⟩⟩
theorem MapV.kept {w w' : World} {B N : Nat} {f : ByteArray → Option Value} {row : Option Nat} (h : MapV w B N f) (hg : w.grownBy w' row) (hne : some B ≠ row) : MapV w' B N f := by
  obtain ⟨D, h1, h2⟩ := h
  exact ⟨D, h1.kept hg hne, h2⟩
theorem MapV.lt {w : World} {B N : Nat} {f : ByteArray → Option Value} (h : MapV w B N f) : B < w.heap.size := by
  obtain ⟨D, h1, _⟩ := h
  exact h1.lt
theorem MapV.hit {w : World} {B N : Nat} {f : ByteArray → Option Value} (h : MapV w B N f) {t e : TypeId} (ht : Tryz.prog.underlying t = some (.map 9 e)) {z : Value} (hz : (zeroValue e).run Tryz.prog w = .ok z w) {s : ByteArray} (hs : s.size ≤ maxLen) {v : Value} (hv : f s = some v) : (Instr.lookup t (.map (some B)) (.string s) false).run Tryz.prog w = .ok v w := by
  obtain ⟨D, h1, h2⟩ := h
  obtain ⟨u, ps, hr, hu⟩ := h1.lookup lawS ht hz (zd := .held z) (zp := []) rfl (klS_of hs)
  rw [(h2 s hs).2 v hv] at hu
  have e : u = v := valE_inj hu
  rw [← e]; exact hr
theorem MapV.miss {w : World} {B N : Nat} {f : ByteArray → Option Value} (h : MapV w B N f) {t e : TypeId} (ht : Tryz.prog.underlying t = some (.map 9 e)) {z : Value} (hz : (zeroValue e).run Tryz.prog w = .ok z w) {s : ByteArray} (hs : s.size ≤ maxLen) (hv : f s = none) : (Instr.lookup t (.map (some B)) (.string s) false).run Tryz.prog w = .ok z w := by
  obtain ⟨D, h1, h2⟩ := h
  obtain ⟨u, ps, hr, hu⟩ := h1.lookup lawS ht hz (zd := .held z) (zp := []) rfl (klS_of hs)
  have hh := (h2 s hs).1
  rw [hv] at hh
  rw [atKey_of_not_has hh] at hu
  have e : u = z := valE_inj hu
  rw [← e]; exact hr
theorem MapV.asks {w : World} {B N : Nat} {f : ByteArray → Option Value} (h : MapV w B N f) {t e : TypeId} (ht : Tryz.prog.underlying t = some (.map 9 e)) {z : Value} (hz : (zeroValue e).run Tryz.prog w = .ok z w) {s : ByteArray} (hs : s.size ≤ maxLen) : (Instr.lookup t (.map (some B)) (.string s) true).run Tryz.prog w = .ok (.tuple #[(f s).getD z, .bool (f s).isSome]) w := by
  obtain ⟨D, h1, h2⟩ := h
  obtain ⟨u, ps, hr, hu⟩ := h1.look_ok lawS ht hz (zd := .held z) (zp := []) rfl (klS_of hs)
  have hh := (h2 s hs).1
  rw [hr, hh]
  have e : u = (f s).getD z := by
    cases hv : f s with
    | none =>
      rw [hv] at hh
      rw [atKey_of_not_has hh] at hu
      exact valE_inj hu
    | some v =>
      rw [(h2 s hs).2 v hv] at hu
      exact valE_inj hu
  rw [e]
def putV (f : ByteArray → Option Value) (s : ByteArray) (v : Value) : ByteArray → Option Value := fun t => if t = s then some v else f t
theorem putV_same (f : ByteArray → Option Value) (s : ByteArray) (v : Value) : putV f s v s = some v := by simp [putV]
theorem putV_other {f : ByteArray → Option Value} {s t : ByteArray} {v : Value} (h : t ≠ s) : putV f s v t = f t := by simp [putV, h]
theorem MapV.put {w : World} {B N : Nat} {f : ByteArray → Option Value} (h : MapV w B N f) {t e : TypeId} (ht : Tryz.prog.underlying t = some (.map 9 e)) {s : ByteArray} (hs : s.size ≤ maxLen) (hN : N < maxLen) (v : Value) : ∃ w', (Instr.mapUpdate t (.map (some B)) (.string s) v).run Tryz.prog w = .ok () w' ∧ MapV w' B (N + 1) (putV f s v) ∧ w.grownBy w' (some B) := by
  obtain ⟨D, h1, h2⟩ := h
  have hm := h1.isMap
  obtain ⟨w', hr, h3, h4⟩ := h1.update lawS ht hN (klS_of hs) (d := .held v) (ps := []) rfl
  refine ⟨w', hr, ⟨_, h3, fun t ht => ?_⟩, h4⟩
  by_cases e : t = s
  · subst e
    refine ⟨by rw [has_put_same hm (klS_lit _), putV_same]; rfl, fun u hu z => ?_⟩
    rw [putV_same] at hu
    rw [atKey_put_same hm (klS_lit _), Option.some.inj hu]
  · have hk := klS_ne e
    refine ⟨by rw [has_put_other hk, putV_other e]; exact (h2 t ht).1, fun u hu z => ?_⟩
    rw [putV_other e] at hu
    rw [atKey_put_other hk]
    exact (h2 t ht).2 u hu z
end Go.Proofs.YtcdeicfegfedfaaGreatDoor

namespace Go.Proofs.YtcdeicfegfedfaaGreatDoor
open Go.RowKit Go.Maps
open Par (ba)

def levM : ByteArray → Option Value := (putV (putV (putV (putV (putV (putV (putV (putV (putV (putV (putV (putV (putV (fun _ => none) ⟨#[124, 124]⟩ (.int .i64 1)) ⟨#[38, 38]⟩ (.int .i64 2)) ⟨#[61, 61]⟩ (.int .i64 3)) ⟨#[33, 61]⟩ (.int .i64 3)) ⟨#[60]⟩ (.int .i64 3)) ⟨#[60, 61]⟩ (.int .i64 3)) ⟨#[62]⟩ (.int .i64 3)) ⟨#[62, 61]⟩ (.int .i64 3)) ⟨#[43]⟩ (.int .i64 4)) ⟨#[45]⟩ (.int .i64 4)) ⟨#[42]⟩ (.int .i64 5)) ⟨#[47]⟩ (.int .i64 5)) ⟨#[37]⟩ (.int .i64 5))
theorem lev_at (s : ByteArray) : (levM s).getD (.int .i64 0) = .int .i64 (Par.levF s.toList : Int) := by
  have key : ∀ l : List UInt8, (levM ⟨⟨l⟩⟩).getD (.int .i64 0) = .int .i64 (Par.levF l : Int) := by
    intro l
    have ne : ∀ {k : List UInt8}, ¬ l = k → ¬ (⟨⟨l⟩⟩ : ByteArray) = ⟨⟨k⟩⟩ := fun h e => h (by injection e with e; injection e)
    by_cases h0 : l = [124, 124]
    · subst h0; rfl
    by_cases h1 : l = [38, 38]
    · subst h1; rfl
    by_cases h2 : l = [61, 61]
    · subst h2; rfl
    by_cases h3 : l = [33, 61]
    · subst h3; rfl
    by_cases h4 : l = [60]
    · subst h4; rfl
    by_cases h5 : l = [60, 61]
    · subst h5; rfl
    by_cases h6 : l = [62]
    · subst h6; rfl
    by_cases h7 : l = [62, 61]
    · subst h7; rfl
    by_cases h8 : l = [43]
    · subst h8; rfl
    by_cases h9 : l = [45]
    · subst h9; rfl
    by_cases h10 : l = [42]
    · subst h10; rfl
    by_cases h11 : l = [47]
    · subst h11; rfl
    by_cases h12 : l = [37]
    · subst h12; rfl
    have e1 : levM ⟨⟨l⟩⟩ = none := by
      unfold levM
      rw [putV_other (ne h12)]
      rw [putV_other (ne h11)]
      rw [putV_other (ne h10)]
      rw [putV_other (ne h9)]
      rw [putV_other (ne h8)]
      rw [putV_other (ne h7)]
      rw [putV_other (ne h6)]
      rw [putV_other (ne h5)]
      rw [putV_other (ne h4)]
      rw [putV_other (ne h3)]
      rw [putV_other (ne h2)]
      rw [putV_other (ne h1)]
      rw [putV_other (ne h0)]
    rw [e1]
    unfold Par.levF
    simp [h0, h1, h2, h3, h4, h5, h6, h7, h8, h9, h10, h11, h12]
  have h := key s.data.toList
  rw [show (⟨⟨s.data.toList⟩⟩ : ByteArray) = s from rfl] at h
  rw [h, ByteArray.toList_eq]
set_option maxRecDepth 100000 in
set_option maxHeartbeats 4000000 in
theorem levelD (s : ByteArray) (hs : s.size ≤ maxLen) (w : World) :
    Calls Tryz.prog 41 #[.string s] w fun x w' => x = .returned (.int .i64 (Par.levF s.toList : Int)) ∧ Below w.heap.size w w' := by
  have hmm := @run_makeMap Tryz.prog
  have ht := Tryz.underlying106
  have m0 := MapV.made w
  obtain ⟨w1, r1, m1, g1⟩ := m0.put ht (s := ⟨#[124, 124]⟩) (by decide) (by simp [maxLen]) (.int .i64 1)
  obtain ⟨w2, r2, m2, g2⟩ := m1.put ht (s := ⟨#[38, 38]⟩) (by decide) (by simp [maxLen]) (.int .i64 2)
  obtain ⟨w3, r3, m3, g3⟩ := m2.put ht (s := ⟨#[61, 61]⟩) (by decide) (by simp [maxLen]) (.int .i64 3)
  obtain ⟨w4, r4, m4, g4⟩ := m3.put ht (s := ⟨#[33, 61]⟩) (by decide) (by simp [maxLen]) (.int .i64 3)
  obtain ⟨w5, r5, m5, g5⟩ := m4.put ht (s := ⟨#[60]⟩) (by decide) (by simp [maxLen]) (.int .i64 3)
  obtain ⟨w6, r6, m6, g6⟩ := m5.put ht (s := ⟨#[60, 61]⟩) (by decide) (by simp [maxLen]) (.int .i64 3)
  obtain ⟨w7, r7, m7, g7⟩ := m6.put ht (s := ⟨#[62]⟩) (by decide) (by simp [maxLen]) (.int .i64 3)
  obtain ⟨w8, r8, m8, g8⟩ := m7.put ht (s := ⟨#[62, 61]⟩) (by decide) (by simp [maxLen]) (.int .i64 3)
  obtain ⟨w9, r9, m9, g9⟩ := m8.put ht (s := ⟨#[43]⟩) (by decide) (by simp [maxLen]) (.int .i64 4)
  obtain ⟨w10, r10, m10, g10⟩ := m9.put ht (s := ⟨#[45]⟩) (by decide) (by simp [maxLen]) (.int .i64 4)
  obtain ⟨w11, r11, m11, g11⟩ := m10.put ht (s := ⟨#[42]⟩) (by decide) (by simp [maxLen]) (.int .i64 5)
  obtain ⟨w12, r12, m12, g12⟩ := m11.put ht (s := ⟨#[47]⟩) (by decide) (by simp [maxLen]) (.int .i64 5)
  obtain ⟨w13, r13, m13, g13⟩ := m12.put ht (s := ⟨#[37]⟩) (by decide) (by simp [maxLen]) (.int .i64 5)
  have hl : (Instr.lookup 106 (.map (some w.heap.size)) (.string s) false).run Tryz.prog w13 = .ok (.int .i64 (Par.levF s.toList : Int)) w13 := by
    have hz : (zeroValue 3).run Tryz.prog w13 = .ok (.int .i64 0) w13 := by simp [go_sem]
    rw [← lev_at s]
    cases hv : levM s with
    | none => exact m13.miss ht hz hs hv
    | some v => exact m13.hit ht hz hs hv
  have HB : Hid (Below w.heap.size w w13) := by
    have h0 : Below w.heap.size w (w.alloc (.map #[] 0)) := (Below.refl _ _).alloc (Nat.le_refl _) _
    have hg := grown_trans (grown_trans (grown_trans (grown_trans (grown_trans (grown_trans (grown_trans (grown_trans (grown_trans (grown_trans (grown_trans (grown_trans (g1) g2) g3) g4) g5) g6) g7) g8) g9) g10) g11) g12) g13
    exact ⟨hg.os.trans h0.os, hg.tape.trans h0.tape, hg.output.trans h0.output, Nat.le_trans h0.size hg.size, fun j hj => (hg.block j (Nat.lt_of_lt_of_le hj h0.size) (by simp; omega)).trans (h0.block j hj)⟩
  clear m1 g1 m2 g2 m3 g3 m4 g4 m5 g5 m6 g6 m7 g7 m8 g8 m9 g9 m10 g10 m11 g11 m12 g12 m13 g13 m0 ht hs
  go_enter Tryz.func41, Tryz.ntmps41
  go_wp2
  go_ret
  exact ⟨rfl, HB.out⟩
end Go.Proofs.YtcdeicfegfedfaaGreatDoor

namespace Go.Proofs.YtcdeicfegfedfaaGreatDoor
open Go.RowKit Go.Maps

theorem lawI : Keyed Tryz.prog 3 := int_keyed Tryz.underlying3
theorem klI_of {n : Int} (h : (Lit.int .i64 n).wf = true) : keyOf Tryz.prog 3 (.int .i64 n) = some (.int .i64 n) := keyOf_int_mk Tryz.underlying3 h
theorem klI_ne {n m : Int} (h : n ≠ m) : Lit.int .i64 n ≠ Lit.int .i64 m := by
  intro e
  injection e with _ e
  exact h e
theorem klI_lit (n : Int) : WideAt.IsKeyLit (Lit.int .i64 n) := trivial
theorem top_map (w : World) : ∃ w1 w2, (Instr.mapUpdate 107 (.map (some w.heap.size)) (.int .i64 1) (.int .i64 999999999)).run Tryz.prog (w.alloc (.map #[] 0)) = .ok () w1 ∧ (Instr.mapUpdate 107 (.map (some w.heap.size)) (.int .i64 2) (.int .i64 1)).run Tryz.prog w1 = .ok () w2 ∧ Below w.heap.size w w2 ∧
    (Instr.lookup 107 (.map (some w.heap.size)) (.int .i64 1) false).run Tryz.prog w2 = .ok (.int .i64 999999999) w2 ∧ (Instr.lookup 107 (.map (some w.heap.size)) (.int .i64 2) false).run Tryz.prog w2 = .ok (.int .i64 1) w2 := by
  have ht := Tryz.underlying107
  have h0 : (w.alloc (.map #[] 0)).ownsMap Tryz.prog 3 valE w.heap.size 0 _ := World.ownsMap_made w _ _ _
  obtain ⟨w1, r1, o1, g1⟩ := h0.update lawI ht (by simp [maxLen]) (klI_of (n := 1) (by decide)) (val := .int .i64 999999999) (d := .held (.int .i64 999999999)) (ps := []) rfl
  obtain ⟨w2, r2, o2, g2⟩ := o1.update lawI ht (by simp [maxLen]) (klI_of (n := 2) (by decide)) (val := .int .i64 1) (d := .held (.int .i64 1)) (ps := []) rfl
  have hz : (zeroValue 3).run Tryz.prog w2 = .ok (.int .i64 0) w2 := by simp [go_sem]
  refine ⟨w1, w2, r1, r2, ?_, ?_, ?_⟩
  · have hb : Below w.heap.size w (w.alloc (.map #[] 0)) := (Below.refl _ _).alloc (Nat.le_refl _) _
    have hg := grown_trans g1 g2
    exact ⟨hg.os.trans hb.os, hg.tape.trans hb.tape, hg.output.trans hb.output, Nat.le_trans hb.size hg.size, fun j hj => (hg.block j (Nat.lt_of_lt_of_le hj hb.size) (by simp; omega)).trans (hb.block j hj)⟩
  · obtain ⟨u, ps, hr, hu⟩ := o2.lookup lawI ht hz (zd := .held (.int .i64 0)) (zp := []) rfl (klI_of (n := 1) (by decide))
    rw [atKey_put_other (klI_ne (by decide)), atKey_put_same h0.isMap (klI_lit 1)] at hu
    have e := valE_inj hu
    rw [← e]; exact hr
  · obtain ⟨u, ps, hr, hu⟩ := o2.lookup lawI ht hz (zd := .held (.int .i64 0)) (zp := []) rfl (klI_of (n := 2) (by decide))
    rw [atKey_put_same o1.isMap (klI_lit 2)] at hu
    have e := valE_inj hu
    rw [← e]; exact hr
end Go.Proofs.YtcdeicfegfedfaaGreatDoor
