/- Programs and lists of lists of numbers that came in, opened: chiefs, pairs, channels; numbers. -/
import Derived.Test.YtfhpmnghakhlkaaDoorOpenE
import Derived.Test.YtfhpmnghakhlkaaDoorOpenD
import Derived.Test.YtfhpmnghakhlkaaDoorAlkC
namespace Go.Proofs.YtfhpmnghakhlkaaDoor
open Go.RowKit Go.ChangeShapes Go.WideShapes Go.Deep

theorem Tryd.cellsPrgP : Tryd.prog.cellsOf 46 = 4 := by kernel_rfl
theorem Tryd.cellsChP : Tryd.prog.cellsOf 54 = 5 := by kernel_rfl
theorem Tryd.cellsBoolP : Tryd.prog.cellsOf 4 = 1 := by kernel_rfl
theorem Tryd.cellsPrsP : Tryd.prog.cellsOf 23 = 1 := by kernel_rfl
theorem Tryd.cellsChsP : Tryd.prog.cellsOf 43 = 1 := by kernel_rfl
theorem Tryd.cellsProcsP : Tryd.prog.cellsOf 44 = 1 := by kernel_rfl
theorem Tryd.cellsIntsP : Tryd.prog.cellsOf 56 = 1 := by kernel_rfl
theorem slice_form {H : Type} {enc : TypeId × Value → H} {w : World} {t e : TypeId} {fuel : Nat} {x : DataW H × List MemPlace} {v : Value} (ht : Tryd.prog.underlying t = some (.slice e)) (h : DataW.trod enc Tryd.prog w 0 (fun _ => true) true fuel t [v] = some x) : ∃ ao len cap, v = .slice ao len cap := by
  rcases open_slice ht h with ⟨hcs, _⟩ | ⟨a, len', cap', m, n, D, Pl, hcs, _⟩
  · simp at hcs; exact ⟨_, _, _, hcs⟩
  · simp at hcs; exact ⟨_, _, _, hcs⟩

theorem trod_four {H : Type} {P : Program} {enc : TypeId × Value → H} {w : World} {base : Nat} {spare : Nat → Bool} {held : Bool} {t : TypeId} {f0 f1 f2 f3 : Field} {fuel : Nat} {cs : List Value} {x : DataW H × List MemPlace} (ht : P.underlying t = some (.struct #[f0, f1, f2, f3])) (h : DataW.trod enc P w base spare held fuel t cs = some x) :
    ∃ y0 y1 y2 y3 n, DataW.trod enc P w base spare held n f0.type ((cs.drop f0.offset).take (P.cellsOf f0.type)) = some y0 ∧ DataW.trod enc P w base spare held n f1.type ((cs.drop f1.offset).take (P.cellsOf f1.type)) = some y1 ∧ DataW.trod enc P w base spare held n f2.type ((cs.drop f2.offset).take (P.cellsOf f2.type)) = some y2 ∧ DataW.trod enc P w base spare held n f3.type ((cs.drop f3.offset).take (P.cellsOf f3.type)) = some y3 := by
  obtain ⟨xs, n, _, rfl, hl, hlen, hf⟩ := DataW.trod_struct ht h
  match xs, hlen with
  | [y0, y1, y2, y3], _ => exact ⟨y0, y1, y2, y3, n, by simpa using hf 0 f0 rfl, by simpa using hf 1 f1 rfl, by simpa using hf 2 f2 rfl, by simpa using hf 3 f3 rfl⟩
theorem trod_five {H : Type} {P : Program} {enc : TypeId × Value → H} {w : World} {base : Nat} {spare : Nat → Bool} {held : Bool} {t : TypeId} {f0 f1 f2 f3 f4 : Field} {fuel : Nat} {cs : List Value} {x : DataW H × List MemPlace} (ht : P.underlying t = some (.struct #[f0, f1, f2, f3, f4])) (h : DataW.trod enc P w base spare held fuel t cs = some x) :
    ∃ y0 y1 y2 y3 y4 n, DataW.trod enc P w base spare held n f0.type ((cs.drop f0.offset).take (P.cellsOf f0.type)) = some y0 ∧ DataW.trod enc P w base spare held n f1.type ((cs.drop f1.offset).take (P.cellsOf f1.type)) = some y1 ∧ DataW.trod enc P w base spare held n f2.type ((cs.drop f2.offset).take (P.cellsOf f2.type)) = some y2 ∧ DataW.trod enc P w base spare held n f3.type ((cs.drop f3.offset).take (P.cellsOf f3.type)) = some y3 ∧ DataW.trod enc P w base spare held n f4.type ((cs.drop f4.offset).take (P.cellsOf f4.type)) = some y4 := by
  obtain ⟨xs, n, _, rfl, hl, hlen, hf⟩ := DataW.trod_struct ht h
  match xs, hlen with
  | [y0, y1, y2, y3, y4], _ => exact ⟨y0, y1, y2, y3, y4, n, by simpa using hf 0 f0 rfl, by simpa using hf 1 f1 rfl, by simpa using hf 2 f2 rfl, by simpa using hf 3 f3 rfl, by simpa using hf 4 f4 rfl⟩

set_option maxRecDepth 100000 in
theorem ints_open {H : Type} {enc : TypeId × Value → H} {w : World} {fuel : Nat} {x : DataW H × List MemPlace} {v : Value} (h : DataW.trod enc Tryd.prog w 0 (fun _ => true) true fuel 56 [v] = some x) : ∃ l, IntsAt w v l := by
  rcases open_slice Tryd.underlying56 h with ⟨hcs, _⟩ | ⟨a, len, cap, m, n, D, Pl, hcs, _, hl, hm, hmm, _, hx⟩
  · simp at hcs
    exact ⟨[], none, 0, 0, 0, hcs, Nat.zero_le _, ⟨fun h => by simp at h, fun k h => by simp at h, fun h => by simp at h⟩⟩
  · simp at hcs
    have hlm : len ≤ m := by rw [hmm]; split <;> omega
    have each : ∀ i, i < len → ∃ q : Int, w.cell? (a.add i) = some (.int .i64 q) := by
      intro i hi
      obtain ⟨cs', h1, h2⟩ := hx i (by omega)
      rw [Tryd.cellsIntE] at h1
      obtain ⟨_, hlen, hcell⟩ := World.cells?_some h1
      match cs', hlen with
      | [v0], _ =>
        obtain ⟨z, e2, _, _⟩ := DataW.trod_int Tryd.underlying3 h2
        simp at e2
        subst e2
        have c0 := hcell 0 (by omega)
        rw [add_add] at c0
        exact ⟨z, by simpa using c0⟩
    obtain ⟨q, hq⟩ := choose_lt each
    obtain ⟨b, off, spot⟩ := a
    have hspot : 0 < len → spot = none := fun hp => by simpa [Addr.add] using World.cell?_spot (hq 0 hp)
    have hadd : ∀ j, 0 < len → (⟨b, off, spot⟩ : Addr).add j = ⟨b, off + j, none⟩ := fun j hp => by rw [hspot hp]; simp [Addr.add]
    refine ⟨(List.range len).map q, some ⟨b, off, spot⟩, b, off, cap, by simpa using hcs, by simp; omega, ⟨fun hp => ?_, fun k hk => ?_, fun hp => ?_⟩⟩
    · simp at hp; rw [hspot hp]
    · simp at hk
      have := hq k hk
      rw [hadd _ (by omega)] at this
      rw [this]; simp
    · simp at hp
      have := hq 0 hp
      rw [hadd _ hp] at this
      exact World.block_lt_of_cell? w _ this

set_option maxRecDepth 100000 in
theorem lists_open {H : Type} {enc : TypeId × Value → H} {w : World} {fuel : Nat} {x : DataW H × List MemPlace} {ao : Option Addr} {len cap : Nat} (h : DataW.trod enc Tryd.prog w 0 (fun _ => true) true fuel 47 [.slice ao len cap] = some x) :
    len ≤ maxLen ∧ ∃ b off ll, len = ll.length ∧ InV w ao b off ll := by
  rcases open_slice Tryd.underlying47 h with ⟨hcs, _⟩ | ⟨a, len', cap', m, n, D, Pl, hcs, _, hl, hm, hmm, _, hx⟩
  · simp at hcs
    obtain ⟨rfl, rfl, rfl⟩ := hcs
    exact ⟨Nat.zero_le _, 0, 0, [], rfl, ⟨fun h => by simp at h, fun k h => by simp at h, fun h => by simp at h⟩⟩
  · simp at hcs
    obtain ⟨rfl, rfl, rfl⟩ := hcs
    have hlm : len ≤ m := by rw [hmm]; split <;> omega
    refine ⟨by omega, ?_⟩
    have each : ∀ i, i < len → ∃ q : Value × List Int, w.cell? (a.add i) = some q.1 ∧ IntsAt w q.1 q.2 := by
      intro i hi
      obtain ⟨cs', h1, h2⟩ := hx i (by omega)
      rw [Tryd.cellsIntsP] at h1
      obtain ⟨_, hlen, hcell⟩ := World.cells?_some h1
      match cs', hlen with
      | [v0], _ =>
        obtain ⟨l, hl⟩ := ints_open h2
        have c0 := hcell 0 (by omega)
        rw [add_add] at c0
        exact ⟨(v0, l), by simpa using c0, hl⟩
    obtain ⟨q, hq⟩ := choose_lt each
    obtain ⟨b, off, spot⟩ := a
    have hspot : 0 < len → spot = none := fun hp => by simpa [Addr.add] using World.cell?_spot (hq 0 hp).1
    have hadd : ∀ j, 0 < len → (⟨b, off, spot⟩ : Addr).add j = ⟨b, off + j, none⟩ := fun j hp => by rw [hspot hp]; simp [Addr.add]
    refine ⟨b, off, (List.range len).map fun i => (q i).2, by simp, ⟨fun hp => ?_, fun k hk => ?_, fun hp => ?_⟩⟩
    · simp at hp; rw [hspot hp]
    · simp at hk
      have := hq k hk
      rw [hadd _ (by omega)] at this
      exact ⟨_, this.1, by simpa using this.2⟩
    · simp at hp
      have := (hq 0 hp).1
      rw [hadd _ hp] at this
      exact World.block_lt_of_cell? w _ this

set_option maxRecDepth 100000 in
theorem chans_open {H : Type} {enc : TypeId × Value → H} {w : World} {fuel : Nat} {x : DataW H × List MemPlace} {ao : Option Addr} {len cap : Nat} (h : DataW.trod enc Tryd.prog w 0 (fun _ => true) true fuel 43 [.slice ao len cap] = some x) :
    len ≤ maxLen ∧ ∃ b off vs xs, len = xs.length ∧ ChV w ao b off vs ∧ ChL w vs xs := by
  rcases open_slice Tryd.underlying43 h with ⟨hcs, _⟩ | ⟨a, len', cap', m, n, D, Pl, hcs, _, hl, hm, hmm, _, hx⟩
  · simp at hcs
    obtain ⟨rfl, rfl, rfl⟩ := hcs
    exact ⟨Nat.zero_le _, 0, 0, [], [], rfl, ⟨fun h => by simp at h, fun k h => by simp at h, fun k h => by simp at h, fun k h => by simp at h, fun k h => by simp at h, fun k h => by simp at h, fun h => by simp at h⟩, ⟨rfl, fun k h => by simp at h⟩⟩
  · simp at hcs
    obtain ⟨rfl, rfl, rfl⟩ := hcs
    have hlm : len ≤ m := by rw [hmm]; split <;> omega
    refine ⟨by omega, ?_⟩
    have each : ∀ i, i < len → ∃ q : Ch5 × List Pol, w.cell? (a.add (i * 5)) = some (.int .i64 q.1.1) ∧ w.cell? (a.add (i * 5 + 1)) = some (.string q.1.2.1) ∧ w.cell? (a.add (i * 5 + 2)) = some (.bool q.1.2.2.1) ∧ w.cell? (a.add (i * 5 + 3)) = some (.int .i64 q.1.2.2.2.1) ∧ w.cell? (a.add (i * 5 + 4)) = some q.1.2.2.2.2 ∧ LabOf w q.1.2.2.2.2 q.2 := by
      intro i hi
      obtain ⟨cs', h1, h2⟩ := hx i (by omega)
      rw [Tryd.cellsChP] at h1
      obtain ⟨_, hlen, hcell⟩ := World.cells?_some h1
      obtain ⟨y0, y1, y2, y3, y4, n', g0, g1, g2, g3, g4⟩ := trod_five Tryd.underlying54 h2
      match cs', hlen with
      | [v0, v1, v2, v3, v4], _ =>
        simp only [Tryd.cellsLabE, Tryd.cellsIntE, Tryd.cellsStrC, Tryd.cellsBoolP] at g0 g1 g2 g3 g4
        obtain ⟨z0, e0, _, _⟩ := DataW.trod_int Tryd.underlying3 g0
        obtain ⟨z1, e1, _, _⟩ := DataW.trod_string Tryd.underlying9 g1
        obtain ⟨z2, e2, _⟩ := DataW.trod_bool Tryd.underlying4 g2
        obtain ⟨z3, e3, _, _⟩ := DataW.trod_int Tryd.underlying3 g3
        simp at e0 e1 e2 e3
        subst e0 e1 e2 e3
        obtain ⟨xs, hxs⟩ := labelV_open (v := v4) (by simpa using g4)
        have c0 := hcell 0 (by omega)
        have c1 := hcell 1 (by omega)
        have c2 := hcell 2 (by omega)
        have c3 := hcell 3 (by omega)
        have c4 := hcell 4 (by omega)
        rw [add_add] at c0 c1 c2 c3 c4
        exact ⟨((z0, z1, z2, z3, v4), xs), by simpa using c0, by simpa using c1, by simpa using c2, by simpa using c3, by simpa using c4, hxs⟩
    obtain ⟨q, hq⟩ := choose_lt each
    obtain ⟨b, off, spot⟩ := a
    have hspot : 0 < len → spot = none := fun hp => by simpa [Addr.add] using World.cell?_spot (hq 0 hp).1
    have hadd : ∀ j, 0 < len → (⟨b, off, spot⟩ : Addr).add j = ⟨b, off + j, none⟩ := fun j hp => by rw [hspot hp]; simp [Addr.add]
    refine ⟨b, off, (List.range len).map fun i => (q i).1, (List.range len).map fun i => (q i).2, by simp, ⟨fun hp => ?_, fun k hk => ?_, fun k hk => ?_, fun k hk => ?_, fun k hk => ?_, fun k hk => ?_, fun hp => ?_⟩, ⟨by simp, fun k hk hk' => ?_⟩⟩
    · simp at hp; rw [hspot hp]
    · simp at hk
      have := (hq k hk).1
      rw [hadd _ (by omega)] at this
      rw [this]; simp
    · simp at hk
      have := (hq k hk).2.1
      rw [hadd _ (by omega), ← Nat.add_assoc] at this
      rw [this]; simp
    · simp at hk
      have := (hq k hk).2.2.1
      rw [hadd _ (by omega), ← Nat.add_assoc] at this
      rw [this]; simp
    · simp at hk
      have := (hq k hk).2.2.2.1
      rw [hadd _ (by omega), ← Nat.add_assoc] at this
      rw [this]; simp
    · simp at hk
      have := (hq k hk).2.2.2.2.1
      rw [hadd _ (by omega), ← Nat.add_assoc] at this
      rw [this]; simp
    · simp at hp
      have := (hq 0 hp).1
      rw [hadd _ hp] at this
      exact World.block_lt_of_cell? w _ this
    · simp at hk
      simp only [List.getElem_map, List.getElem_range]
      exact (hq k hk).2.2.2.2.2

set_option maxRecDepth 100000 in
theorem prog_open {H : Type} {enc : TypeId × Value → H} {w : World} {fuel : Nat} {x : DataW H × List MemPlace} {cs : List Value} (hl : cs.length = 4) (h : DataW.trod enc Tryd.prog w 0 (fun _ => true) true fuel 46 cs = some x) :
    ∃ ao n c po m d co cn cc pro prn prc b off b' off' ls ps cb coff vs xs, cs = [.slice ao n c, .slice po m d, .slice co cn cc, .slice pro prn prc] ∧ Chiefs w ao po b off b' off' n m c ls ps ∧ (∀ p ∈ ps, p.1.size ≤ maxLen ∧ p.2.size ≤ maxLen) ∧ cn ≤ maxLen ∧ cn = xs.length ∧ ChV w co cb coff vs ∧ ChL w vs xs := by
  obtain ⟨y0, y1, y2, y3, n', g0, g1, g2, g3⟩ := trod_four Tryd.underlying46 h
  match cs, hl with
  | [v0, v1, v2, v3], _ =>
    simp only [Tryd.cellsSlL, Tryd.cellsPrsP, Tryd.cellsChsP, Tryd.cellsProcsP] at g0 g1 g2 g3
    have g0 : DataW.trod enc Tryd.prog w 0 (fun _ => true) true n' 22 [v0] = some y0 := by simpa using g0
    have g1 : DataW.trod enc Tryd.prog w 0 (fun _ => true) true n' 23 [v1] = some y1 := by simpa using g1
    have g2 : DataW.trod enc Tryd.prog w 0 (fun _ => true) true n' 43 [v2] = some y2 := by simpa using g2
    have g3 : DataW.trod enc Tryd.prog w 0 (fun _ => true) true n' 44 [v3] = some y3 := by simpa using g3
    obtain ⟨ao, n, c, rfl⟩ := slice_form Tryd.underlying22 g0
    obtain ⟨po, m, d, rfl⟩ := slice_form Tryd.underlying23 g1
    obtain ⟨co, cn, cc, rfl⟩ := slice_form Tryd.underlying43 g2
    obtain ⟨pro, prn, prc, rfl⟩ := slice_form Tryd.underlying44 g3
    obtain ⟨hc0, hm0, b, off, ls, hl0, hs0, hz0⟩ := strs_open g0
    obtain ⟨hc1, hm1, b', off', ps, hl1, hs1, hz1⟩ := prs_open_sized g1
    obtain ⟨hm2, cb, coff, vs, xs, hl2, hv2, hx2⟩ := chans_open g2
    exact ⟨ao, n, c, po, m, d, co, cn, cc, pro, prn, prc, b, off, b', off', ls, ps, cb, coff, vs, xs, rfl, ⟨hl0, hl1, hm0, hm1, hc0, hs0, hs1, hz0⟩, hz1, hm2, hl2, hv2, hx2⟩
end Go.Proofs.YtfhpmnghakhlkaaDoor
