/- The package variables that are listed, opened: the table of signs, the library's powers of ten. -/
import Derived.Test.YtcdeicfegfedfaaGreatDoorGaRd
import Derived.Test.YtcdeicfegfedfaaGreatDoorGaTxB
import Derived.Test.YtcdeicfegfedfaaGreatDoorGaShC
import Derived.OpenShut
import Derived.Deep.Slices
import Derived.Deep.Strs
import Derived.Lib.LaidTab
import Derived.Lib.LaidU8
import Derived.WalkSmall
namespace Go.Proofs.YtcdeicfegfedfaaGreatDoor
open Go.RowKit Go.ChangeShapes Go.WideShapes Go.Deep

theorem cellsStrV : Tryz.prog.cellsOf 9 = 1 := by kernel_rfl
theorem cellsStrsV : Tryz.prog.cellsOf 54 = 1 := by kernel_rfl
def strsD {H : Type} (L : List ByteArray) : DataW H := .slice (L.map fun s => .lit (.string s.data.toList)) []
theorem strs_laid {H : Type} {enc : TypeId × Value → H} {w : World} {base fuel : Nat} {sp : Nat → Bool} {held : Bool} {v : Value} {L : List ByteArray} {p : List MemPlace} (h : DataW.trod enc Tryz.prog w base sp held fuel 54 [v] = some (strsD L, p)) :
    ∃ ao b off c, v = .slice ao L.length c ∧ Strs w ao b off L := by
  rcases open_slice1 Tryz.underlying54 cellsStrV h with ⟨_, hx⟩ | ⟨a, len, cap, m, n, V, D, Pl, hcs, _, hl, _, hmm, hx, hall⟩
  · cases hx
  · simp only [List.cons.injEq, and_true] at hcs
    injection hx with hx _
    injection hx with hx _
    have hlen : len = L.length := by
      have := congrArg List.length hx
      simp at this
      omega
    have hlm : len ≤ m := by rw [hmm]; split <;> omega
    subst hlen
    have each : ∀ i (hi : i < L.length), w.cell? (a.add i) = some (.string L[i]) := by
      intro i hi
      obtain ⟨h1, h2⟩ := hall i (by omega)
      obtain ⟨s, e1, e2, _⟩ := DataW.trod_string Tryz.underlying9 h2
      simp only [List.cons.injEq, and_true] at e1
      injection e2 with e2 _
      have h3 : (L.map fun s => (DataW.lit (.string s.data.toList) : DataW H))[i]? = ((List.range L.length).map D)[i]? := by rw [hx]
      simp only [List.getElem?_map, List.getElem?_eq_getElem hi, Option.map_some, List.getElem?_range hi, Option.some.injEq] at h3
      rw [e2] at h3
      injection h3 with h3
      injection h3 with h3
      have : s = L[i] := ByteArray.ext (Array.ext' h3.symm)
      rw [h1, e1, this]
    obtain ⟨b, off, spot⟩ := a
    have hspot : 0 < L.length → spot = none := fun hp => by simpa [Addr.add] using World.cell?_spot (each 0 hp)
    have hadd : ∀ j, 0 < L.length → (⟨b, off, spot⟩ : Addr).add j = ⟨b, off + j, none⟩ := fun j hp => by rw [hspot hp]; simp [Addr.add]
    refine ⟨some ⟨b, off, spot⟩, b, off, cap, hcs, ⟨fun hp => by rw [hspot hp], fun k hk => ?_, fun hp => ?_⟩⟩
    · have := each k hk
      rwa [hadd k (by omega)] at this
    · have := each 0 hp
      rw [hadd 0 hp] at this
      exact World.block_lt_of_cell? w _ this
def levD {H : Type} : DataW H := .agg [strsD (sgn 0), strsD (sgn 1), strsD (sgn 2), strsD (sgn 3), strsD (sgn 4)]
theorem cellsLev : Tryz.prog.cellsOf 123 = 5 := by kernel_rfl
theorem levName : Tryz.prog.globalNamed "cloister/tree.levels" = some 0 := by kernel_rfl
theorem levType : (Tryz.prog.globals[0]?).map (·.type) = some 123 := by kernel_rfl
theorem lev_reads {w : World} (h : Lib.VarReads Tryz.prog w "cloister/tree.levels" levD) : LevAt w w.heap.size := by
  obtain ⟨g, t, cs, fuel, p, hg, ht, hvar, hd⟩ := h
  obtain rfl : 0 = g := Option.some.inj (levName.symm.trans hg)
  obtain rfl : 123 = t := Option.some.inj (levType.symm.trans ht)
  obtain ⟨ty, fz, hb⟩ : ∃ ty fz, w.heap[0]? = some (.cells cs ty fz) := by
    unfold World.var? at hvar
    rw [levName, Option.bind_some] at hvar
    split at hvar
    · rename_i cs' ty fz he
      simp only [Option.some.injEq] at hvar
      subst hvar
      exact ⟨ty, fz, he⟩
    · cases hvar
  have hlt := lt_of_block hb
  obtain ⟨xs, m, _, hx, hlen, hxl, hel⟩ := DataW.trod_array Tryz.underlying123 hd
  rw [cellsLev] at hlen
  injection hx with hx _
  injection hx with hx
  rw [cellsStrsV] at hel
  refine ⟨hlt, hlt, fun i hi => ?_⟩
  have h1 := hel i hi
  have hxi : xs[i]? = some (xs[i]'(by omega)) := List.getElem?_eq_getElem (by omega)
  rw [hxi] at h1
  have hcl : i < cs.toList.length := by omega
  have e : (cs.toList.drop (i * 1)).take 1 = [cs.toList[i]] := by
    rw [Nat.mul_one, List.drop_eq_getElem_cons hcl]; rfl
  rw [e] at h1
  have hxd : (xs[i]'(by omega)).1 = strsD (sgn i) := by
    have h2 : (xs.map (·.1))[i]? = some (strsD (sgn i)) := by
      rw [← hx]
      match i, hi with
      | 0, _ => rfl
      | 1, _ => rfl
      | 2, _ => rfl
      | 3, _ => rfl
      | 4, _ => rfl
    rw [List.getElem?_map, hxi] at h2
    simpa using h2
  rw [show (xs[i]'(by omega)) = (strsD (sgn i), (xs[i]'(by omega)).2) from Prod.ext hxd rfl] at h1
  obtain ⟨ao, b, off, c, hv, hs⟩ := strs_laid h1
  refine ⟨ao, b, off, c, ?_, hs, hs.lt (by
    match i, hi with
    | 0, _ => decide
    | 1, _ => decide
    | 2, _ => decide
    | 3, _ => decide
    | 4, _ => decide)⟩
  rw [← hv]
  simp only [World.cell?, hb]
  simp [Array.getElem?_eq_getElem (show i < cs.size by simpa using hcl)]
/- The powers of ten serve strconv.Itoa wherever nothing old has turned. -/
theorem powName : Tryz.prog.globalNamed "internal/strconv.uint64pow10" = some 8 := by kernel_rfl
theorem itoa_of {w : World} (h : Lib.TabIs Tryz.prog w "internal/strconv.uint64pow10" .u64 Lib.pow10Tab) : ∀ V, Below w.heap.size w V → ItoaC V := by
  intro V hV n V' h0 h1 hb
  have hlt : 8 < w.heap.size := by
    have hvar := h
    unfold Lib.TabIs World.var? at hvar
    rw [powName, Option.bind_some] at hvar
    split at hvar
    · rename_i he; exact lt_of_block he
    · cases hvar
  have hv : Lib.TabIs Tryz.prog V' "internal/strconv.uint64pow10" .u64 Lib.pow10Tab := var?_below (hV.trans (hb.mono hV.size)) powName hlt h
  exact Tryz.strconv_Itoa n V' (by omega) (by omega) hv
end Go.Proofs.YtcdeicfegfedfaaGreatDoor
