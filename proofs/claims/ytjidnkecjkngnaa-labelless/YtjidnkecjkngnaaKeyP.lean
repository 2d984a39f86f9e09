/- Pairs of strings as keys of a map. -/
import Derived.Test.YtjidnkecjkngnaaChecked
import Derived.Test.YtjidnkecjkngnaaLabE
import Derived.Maps.Own
import Derived.Maps.OwnOps
import Derived.Maps.OwnSet
import Derived.Maps.Views
import Derived.DeepKeys4
import Derived.WalkKit
import Derived.ProofKit
namespace Go.Proofs.Ytjidnkecjkngnaa
open Go.RowKit Go.Maps

theorem laidOutK : laidOutB Try.prog = true := by kernel_rfl
theorem rowK : (35 : TypeId) < Try.prog.types.size := of_decide_eq_true (by kernel_rfl)
theorem wideK : (match Try.prog.underlying 35 with | some (.array _ _) | some (.struct _) => true | _ => false) = true := by kernel_rfl
set_option maxRecDepth 100000 in
theorem lawP : Keyed Try.prog 35 := Keyed.of_law (deep_law_laid laidOutK (m := 2) (by omega) rowK (by kernel_rfl) wideK)
theorem keyTypeK : Try.prog.keyType 35 = true := by kernel_rfl
theorem cellsK : Try.prog.cellsOf 35 = 2 := by kernel_rfl
theorem cellsK1 : Try.prog.cellsOf 9 = 1 := by kernel_rfl
theorem zeroU (w : World) : (zeroValue 87).run Try.prog w = .ok (.agg #[]) w := by kernel_rfl

def pairKey (a b : ByteArray) : Lit := .string (keyBytes [.string a.data.toList, .string b.data.toList])
theorem pairKey_of {a b : ByteArray} (ha : a.size ≤ maxLen) (hb : b.size ≤ maxLen) : keyOf Try.prog 35 (.agg #[.string a, .string b]) = some (pairKey a b) := by
  obtain ⟨m, hm⟩ := Nat.exists_eq_succ_of_ne_zero (n := Try.prog.types.size) (fun h => absurd (h ▸ rowK) (Nat.not_lt_zero _))
  have e1 : Try.prog.keyLits (Try.prog.types.size + 1) 35 [.string a, .string b] = some [.string a.data.toList, .string b.data.toList] := by
    rw [hm]
    simp [Program.keyLits, Try.underlying35, Try.underlying9, cellsK, cellsK1, List.range, List.range.loop, ha, hb]
  have e2 : (Value.agg #[.string a, .string b]).formed Try.prog 35 = true := by
    simp [Value.formed, Try.underlying35, cellsK]
  have e3 : (Value.agg #[.string a, .string b]).cells.toList = [.string a, .string b] := rfl
  unfold keyOf
  rw [Try.underlying35]
  simp only [keyTypeK, e2, e3, e1, Bool.and_self, if_true, Option.map_some]
  rfl
theorem pairKey_ne {a b a' b' : ByteArray} (ha : a.size ≤ maxLen) (hb : b.size ≤ maxLen) (ha' : a'.size ≤ maxLen) (hb' : b'.size ≤ maxLen) (h : (a, b) ≠ (a', b')) : pairKey a b ≠ pairKey a' b' := by
  intro e
  have h1 := pairKey_of ha hb
  have h2 := pairKey_of ha' hb'
  rw [e] at h1
  have := lawP.inj h1 h2
  injection this with this
  simp at this
  exact h (by rw [this.1, this.2])
theorem pairKey_lit (a b : ByteArray) : WideAt.IsKeyLit (pairKey a b) := trivial
/- The map has just the pairs of which T says so. -/
def HasJust (D : DataW Unit) (T : ByteArray → ByteArray → Bool) : Prop := ∀ a b : ByteArray, a.size ≤ maxLen → b.size ≤ maxLen → Maps.has D (pairKey a b) = T a b
theorem hasJust_nil : HasJust (.map []) (fun _ _ => false) := fun _ _ _ _ => rfl
theorem hasJust_put {D : DataW Unit} {T : ByteArray → ByteArray → Bool} (hD : IsMap D) (h : HasJust D T) {a b : ByteArray} (ha : a.size ≤ maxLen) (hb : b.size ≤ maxLen) (d : DataW Unit) : HasJust (D.put (pairKey a b) d) (fun x y => T x y || decide ((x, y) = (a, b))) := by
  intro x y hx hy
  by_cases e : (x, y) = (a, b)
  · injection e with e1 e2
    subst e1 e2
    rw [has_put_same hD (pairKey_lit _ _)]
    simp
  · rw [has_put_other (pairKey_ne hx hy ha hb e), h x y hx hy]
    simp [e]
theorem HasJust.congr {D : DataW Unit} {T T' : ByteArray → ByteArray → Bool} (h : HasJust D T) (e : ∀ a b, T a b = T' a b) : HasJust D T' := fun a b ha hb => (h a b ha hb).trans (e a b)
/- A block is such a map. -/
def Ord (w : World) (B : Nat) (T : ByteArray → ByteArray → Bool) : Prop := ∃ n D, w.ownsMap Try.prog 35 (unitElem (H := Unit)) B n D ∧ HasJust D T
theorem ownsMap_lt {w : World} {B n : Nat} {D : DataW Unit} (h : w.ownsMap Try.prog 35 (unitElem (H := Unit)) B n D) : B < w.heap.size := by
  obtain ⟨es, clock, hb, _⟩ := h
  exact lt_of_block hb
theorem Ord.later {w w' : World} {B : Nat} {T : ByteArray → ByteArray → Bool} (h : Ord w B T) (hb : Below w.heap.size w w') : Ord w' B T := by
  obtain ⟨n, D, h1, h2⟩ := h
  exact ⟨n, D, h1.kept (row := none) ⟨hb.os, hb.tape, hb.output, hb.size, fun j hj _ => hb.block j hj⟩ (by simp), h2⟩
theorem Ord.lt {w : World} {B : Nat} {T : ByteArray → ByteArray → Bool} (h : Ord w B T) : B < w.heap.size := by
  obtain ⟨n, D, h1, _⟩ := h
  exact ownsMap_lt h1
end Go.Proofs.Ytjidnkecjkngnaa
