/- Events that came in, opened: their cells, how long their channels' names are. -/
import Derived.Test.YtfhpmnghakhlkaaDoorOpenL
import Derived.Test.YtfhpmnghakhlkaaDoorEvC
import Derived.SizedLaws
namespace Go.Proofs.YtfhpmnghakhlkaaDoor
open Go.RowKit Go.ChangeShapes Go.WideShapes Go.Deep

theorem Tryd.cellsEvE : Tryd.prog.cellsOf 35 = 3 := by kernel_rfl
theorem Tryd.cellsIntE : Tryd.prog.cellsOf 3 = 1 := by kernel_rfl
theorem Tryd.cellsLabE : Tryd.prog.cellsOf 33 = 1 := by kernel_rfl
theorem Tryd.bytesEv : Tryd.prog.bytesOf 35 = 48 := by kernel_rfl
theorem weights_all_mem {H : Type} {P : Program} {e : TypeId} : ∀ {l : List (DataW H)} {d : DataW H}, d ∈ l → ∀ n ∈ d.weights P e, n ∈ DataW.weightsAll P e l
  | [], _, h, _, _ => by cases h
  | a :: r, d, h, n, hn => by
    simp only [DataW.weightsAll, List.mem_append]
    rcases List.mem_cons.1 h with rfl | h
    · exact .inl hn
    · exact .inr (weights_all_mem h n hn)
theorem labelV_open {H : Type} {enc : TypeId × Value → H} {w : World} {fuel : Nat} {x : DataW H × List MemPlace} {v : Value} (h : DataW.trod enc Tryd.prog w 0 (fun _ => true) true fuel 33 [v] = some x) : ∃ xs, LabOf w v xs := by
  rcases open_slice Tryd.underlying33 h with ⟨hcs, _⟩ | ⟨a, len', cap', m, n, D, Pl, hcs, _⟩
  · simp at hcs
    subst hcs
    obtain ⟨b, off, xs, h1⟩ := label_open h
    exact ⟨xs, _, b, off, _, _, rfl, h1⟩
  · simp at hcs
    subst hcs
    obtain ⟨b, off, xs, h1⟩ := label_open h
    exact ⟨xs, _, b, off, _, _, rfl, h1⟩

set_option maxRecDepth 100000 in
theorem events_open {H : Type} {enc : TypeId × Value → H} {w : World} {fuel : Nat} {x : DataW H × List MemPlace} {ao : Option Addr} {len cap : Nat} (h : DataW.trod enc Tryd.prog w 0 (fun _ => true) true fuel 24 [.slice ao len cap] = some x)
    (hw : ∀ n ∈ x.1.weights Tryd.prog 24, n ≤ reachBytes) :
    len ≤ cap ∧ len ≤ maxLen ∧ len * 48 ≤ 140737488351232 ∧ ∃ b off vs l, len = l.length ∧ EvV w ao b off vs ∧ EvL w vs l := by
  rcases open_slice Tryd.underlying24 h with ⟨hcs, _⟩ | ⟨a, len', cap', m, n, D, Pl, hcs, _, hl, hm, hmm, hx0, hx⟩
  · simp at hcs
    obtain ⟨rfl, rfl, rfl⟩ := hcs
    exact ⟨Nat.le_refl _, Nat.zero_le _, by omega, 0, 0, [], [], rfl, EvV.nil _ _ _, ⟨rfl, fun k h => by simp at h, fun e h => by simp at h⟩⟩
  · simp at hcs
    obtain ⟨rfl, rfl, rfl⟩ := hcs
    have hlm : len ≤ m := by rw [hmm]; split <;> omega
    have hw0 := hw ((((List.range len).map D).length + ((List.range (m - len)).map fun j => D (len + j)).length) * Tryd.prog.bytesOf 35) (by rw [hx0]; simp [DataW.weights, Tryd.underlying24])
    rw [Tryd.bytesEv] at hw0
    simp only [List.length_map, List.length_range, reachBytes] at hw0
    refine ⟨by omega, by omega, by omega, ?_⟩
    have hwd : ∀ i, i < len → ∀ n ∈ (D i).weights Tryd.prog 35, n ≤ reachBytes := by
      intro i hi n hn
      refine hw n ?_
      rw [hx0]
      simp only [DataW.weights, Tryd.underlying24, List.mem_cons, List.mem_append]
      exact .inr (.inl (weights_all_mem (List.mem_map.2 ⟨i, List.mem_range.2 hi, rfl⟩) n hn))
    have each : ∀ i, i < len → ∃ q : Ev3 × List Pol, w.cell? (a.add (i * 3)) = some (.string q.1.1) ∧ w.cell? (a.add (i * 3 + 1)) = some (.int .i64 q.1.2.1) ∧ w.cell? (a.add (i * 3 + 2)) = some q.1.2.2 ∧ LabOf w q.1.2.2 q.2 ∧ q.1.1.size ≤ 140737488351232 := by
      intro i hi
      obtain ⟨cs', h1, h2⟩ := hx i (by omega)
      rw [Tryd.cellsEvE] at h1
      obtain ⟨_, hlen, hcell⟩ := World.cells?_some h1
      obtain ⟨y0, y1, y2, n', hxe, _, g0, g1, g2⟩ := trod_struct3 Tryd.underlying35 h2
      have hwi := hwd i hi
      match cs', hlen with
      | [v0, v1, v2], _ =>
        simp only [Tryd.cellsLabE, Tryd.cellsIntE, Tryd.cellsStrC] at g0 g1 g2
        obtain ⟨s, e1, e1x, hs⟩ := DataW.trod_string Tryd.underlying9 g0
        obtain ⟨z, e2, _, _⟩ := DataW.trod_int Tryd.underlying3 g1
        simp at e1 e2
        subst e1 e2
        obtain ⟨xs, hxs⟩ := labelV_open (v := v2) (by simpa using g2)
        have c0 := hcell 0 (by omega)
        have c1 := hcell 1 (by omega)
        have c2 := hcell 2 (by omega)
        rw [add_add] at c0 c1 c2
        have hsz : s.size ≤ reachBytes := by
          have := hwi s.data.toList.length (by
            have hD : D i = .agg [y0.1, y1.1, y2.1] := congrArg Prod.fst hxe
            rw [hD, e1x]
            simp [DataW.weights, Tryd.underlying35, DataW.weightsEach])
          rwa [Array.length_toList] at this
        refine ⟨((s, z, v2), xs), by simpa using c0, by simpa using c1, by simpa using c2, hxs, ?_⟩
        unfold reachBytes at hsz
        omega
    obtain ⟨q, hq⟩ := choose_lt each
    obtain ⟨b, off, spot⟩ := a
    have hspot : 0 < len → spot = none := fun hp => by simpa [Addr.add] using World.cell?_spot (hq 0 hp).1
    have hadd : ∀ j, 0 < len → (⟨b, off, spot⟩ : Addr).add j = ⟨b, off + j, none⟩ := fun j hp => by rw [hspot hp]; simp [Addr.add]
    refine ⟨b, off, (List.range len).map fun i => (q i).1, (List.range len).map fun i => ((q i).1.1, (q i).1.2.1, (q i).2), by simp, ⟨fun hp => ?_, fun k hk => ?_, fun k hk => ?_, fun k hk => ?_, fun e he => ?_, fun hp => ?_⟩, ⟨by simp, fun k hk hk' => ?_, fun e he => ?_⟩⟩
    · simp at hp; rw [hspot hp]
    · simp at hk
      have := (hq k hk).1
      rw [hadd _ (by omega)] at this
      rw [this]; simp
    · simp at hk
      have := (hq k hk).2.1
      rw [hadd _ (by omega), ← Nat.add_assoc] at this
      rw [this]; simp
    · simp at hk
      have := (hq k hk).2.2.1
      rw [hadd _ (by omega), ← Nat.add_assoc] at this
      rw [this]; simp
    · simp only [List.mem_map, List.mem_range] at he
      obtain ⟨k, hk, rfl⟩ := he
      obtain ⟨lo, _, _, ln, lc, e, _⟩ := (hq k hk).2.2.2.1
      exact ⟨lo, ln, lc, e⟩
    · simp at hp
      have := (hq 0 hp).1
      rw [hadd _ hp] at this
      exact World.block_lt_of_cell? w _ this
    · simp at hk
      simp only [List.getElem_map, List.getElem_range]
      exact ⟨trivial, trivial, (hq k hk).2.2.2.1⟩
    · simp only [List.mem_map, List.mem_range] at he
      obtain ⟨k, hk, rfl⟩ := he
      exact (hq k hk).2.2.2.2
theorem events_weights {H : Type} {ts : List TypeId} {ds : List (DataW H)} {j : Nat} {t : TypeId} {d : DataW H} (h : (DataW.weightsEach Tryd.prog ts ds).all (· ≤ reachBytes) = true) (ht : ts[j]? = some t) (hd : ds[j]? = some d) : ∀ n ∈ d.weights Tryd.prog t, n ≤ reachBytes := fun n hn => by
  simpa using List.all_eq_true.1 h _ (DataW.weights_mem_each ht hd n hn)
end Go.Proofs.YtfhpmnghakhlkaaDoor
