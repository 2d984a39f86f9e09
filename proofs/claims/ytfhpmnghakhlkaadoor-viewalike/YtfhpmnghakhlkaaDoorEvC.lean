/- Rows of events. -/
import Derived.Test.YtfhpmnghakhlkaaDoorLabK
namespace Go.Proofs.YtfhpmnghakhlkaaDoor
open Go.RowKit

/- An event: its channel, its number, its label; without a label; with a label's value. -/
abbrev Evt := ByteArray × Int × List Pol
abbrev Ev2 := ByteArray × Int
abbrev Ev3 := ByteArray × Int × Value
theorem Tryd.infoEv : (Tryd.prog.info? 35).map (fun i => (i.zero, i.size, i.bytes)) = some (some (.agg #[.string ⟨#[]⟩, .int .i64 0, .slice none 0 0]), 3, 48) := by kernel_rfl
structure EvV (w : World) (ao : Option Addr) (b off : Nat) (l : List Ev3) : Prop where
  adr : 0 < l.length → ao = some ⟨b, off, none⟩
  c0 : ∀ k (h : k < l.length), w.cell? ⟨b, off + k * 3, none⟩ = some (.string l[k].1)
  c1 : ∀ k (h : k < l.length), w.cell? ⟨b, off + k * 3 + 1, none⟩ = some (.int .i64 l[k].2.1)
  c2 : ∀ k (h : k < l.length), w.cell? ⟨b, off + k * 3 + 2, none⟩ = some l[k].2.2
  sl : ∀ e ∈ l, ∃ lo ln lc, e.2.2 = .slice lo ln lc
  lt : 0 < l.length → b < w.heap.size
theorem EvV.later {w w' : World} {ao : Option Addr} {b off : Nat} {l : List Ev3} (h : EvV w ao b off l) (hb : Below w.heap.size w w') : EvV w' ao b off l :=
  ⟨h.adr, fun k hk => (hb.cell (p := ⟨b, off + k * 3, none⟩) (h.lt (by omega))).trans (h.c0 k hk), fun k hk => (hb.cell (p := ⟨b, off + k * 3 + 1, none⟩) (h.lt (by omega))).trans (h.c1 k hk), fun k hk => (hb.cell (p := ⟨b, off + k * 3 + 2, none⟩) (h.lt (by omega))).trans (h.c2 k hk), h.sl, fun hn => Nat.lt_of_lt_of_le (h.lt hn) hb.size⟩
theorem EvV.nil (w : World) (b off : Nat) : EvV w none b off [] := ⟨fun h => by simp at h, fun k h => by simp at h, fun k h => by simp at h, fun k h => by simp at h, fun e h => by simp at h, fun h => by simp at h⟩
theorem EvV.take {w : World} {ao : Option Addr} {b off : Nat} {l : List Ev3} (h : EvV w ao b off l) (k : Nat) : EvV w ao b off (l.take k) := by
  refine ⟨fun hp => h.adr ?_, fun j hj => ?_, fun j hj => ?_, fun j hj => ?_, fun e he => h.sl e (List.mem_of_mem_take he), fun hp => h.lt ?_⟩
  · simp at hp; omega
  · simp at hj
    rw [h.c0 j (by omega)]
    simp
  · simp at hj
    rw [h.c1 j (by omega)]
    simp
  · simp at hj
    rw [h.c2 j (by omega)]
    simp
  · simp at hp; omega
/- A label's value. -/
def LabOf (w : World) (v : Value) (x : List Pol) : Prop := ∃ lo lb loff ln lc, v = .slice lo ln lc ∧ LabAt w lo lb loff ln lc x
theorem LabOf.later {w w' : World} {v : Value} {x : List Pol} (h : LabOf w v x) (hb : Below w.heap.size w w') : LabOf w' v x := by
  obtain ⟨lo, lb, loff, ln, lc, h1, h2⟩ := h
  exact ⟨lo, lb, loff, ln, lc, h1, h2.later hb⟩
theorem labAt_nil (w : World) : LabAt w none 0 0 0 0 [] := ⟨rfl, Nat.zero_le _, Nat.le_refl _, ⟨fun h => by simp at h, fun k h => by simp at h, fun k h => by simp at h, fun h => by simp at h⟩, fun p h => by simp at h⟩
theorem LabOf.nil (w : World) : LabOf w (.slice none 0 0) [] := ⟨none, 0, 0, 0, 0, rfl, labAt_nil w⟩
/- Events with labels, by their values. -/
structure EvL (w : World) (vs : List Ev3) (l : List Evt) : Prop where
  ln : vs.length = l.length
  at' : ∀ k (h : k < vs.length) (h' : k < l.length), vs[k].1 = l[k].1 ∧ vs[k].2.1 = l[k].2.1 ∧ LabOf w vs[k].2.2 l[k].2.2
  sz : ∀ e ∈ l, e.1.size ≤ 140737488351232
theorem EvL.later {w w' : World} {vs : List Ev3} {l : List Evt} (h : EvL w vs l) (hb : Below w.heap.size w w') : EvL w' vs l :=
  ⟨h.ln, fun k hk hk' => ⟨(h.at' k hk hk').1, (h.at' k hk hk').2.1, (h.at' k hk hk').2.2.later hb⟩, h.sz⟩
def bareV (l : List Ev2) : List Ev3 := l.map fun e => (e.1, e.2, .slice none 0 0)
theorem bareV_snoc (l : List Ev2) (e : Ev2) : bareV (l ++ [e]) = bareV l ++ [(e.1, e.2, .slice none 0 0)] := by simp [bareV]
theorem bareV_len (l : List Ev2) : (bareV l).length = l.length := by simp [bareV]
theorem bareV_sl (l : List Ev2) : ∀ e ∈ bareV l, ∃ lo ln lc, e.2.2 = .slice lo ln lc := by
  intro e he
  simp only [bareV, List.mem_map] at he
  obtain ⟨x, _, rfl⟩ := he
  exact ⟨none, 0, 0, rfl⟩
def evC (vs : List Ev3) : List Value := vs.flatMap fun e => [.string e.1, .int .i64 e.2.1, e.2.2]
theorem evC_snoc (vs : List Ev3) (e : Ev3) : evC (vs ++ [e]) = evC vs ++ [.string e.1, .int .i64 e.2.1, e.2.2] := by simp [evC]
theorem evC_at (l : List Ev3) (k : Nat) (h : k < l.length) : (evC l)[k * 3]? = some (.string l[k].1) ∧ (evC l)[k * 3 + 1]? = some (.int .i64 l[k].2.1) ∧ (evC l)[k * 3 + 2]? = some l[k].2.2 := by
  induction l generalizing k with
  | nil => simp at h
  | cons a r ih =>
    have e : evC (a :: r) = .string a.1 :: .int .i64 a.2.1 :: a.2.2 :: evC r := rfl
    rw [e]
    match k with
    | 0 => exact ⟨rfl, rfl, rfl⟩
    | j + 1 =>
      obtain ⟨h0, h1, h2⟩ := ih j (by simpa using h)
      have e3 : (j + 1) * 3 = j * 3 + 1 + 1 + 1 := by omega
      rw [e3]
      exact ⟨by simpa using h0, by simpa using h1, by simpa using h2⟩
theorem ev_of_own {w : World} {B : Nat} {v : Value} {l : List Ev3} (h : w.ownsRow B 35 3 v l.length (evC l)) (hsl : ∀ e ∈ l, ∃ lo ln lc, e.2.2 = .slice lo ln lc) :
    ∃ ao b cap, v = .slice ao l.length cap ∧ l.length ≤ cap ∧ cap ≤ maxLen ∧ EvV w ao b 0 l := by
  rcases h.2 with ⟨hv, h0⟩ | ⟨g, cap, cur, hv, hg, hh, hc1, hc2, hsz, htk⟩
  · have hl : l = [] := List.length_eq_zero_iff.1 h0
    subst hl
    exact ⟨none, 0, 0, by rw [hv]; rfl, by simp, by simp [maxLen], EvV.nil _ _ _⟩
  · have key : ∀ i u, (evC l)[i]? = some u → i < l.length * 3 → w.cell? ⟨g, 0 + i, none⟩ = some u := by
      intro i u hu hi
      rw [← htk, List.getElem?_take] at hu
      simp only [hi, if_true] at hu
      rw [Nat.zero_add]
      simp [World.cell?, hh]
      simpa using hu
    refine ⟨some ⟨g, 0, none⟩, g, cap, hv, hc1, hc2, ⟨fun _ => rfl, fun k hk => key _ _ (evC_at l k hk).1 (by omega), fun k hk => ?_, fun k hk => ?_, hsl, fun _ => lt_of_block hh⟩⟩
    · have := key _ _ (evC_at l k hk).2.1 (by omega); rwa [← Nat.add_assoc] at this
    · have := key _ _ (evC_at l k hk).2.2 (by omega); rwa [← Nat.add_assoc] at this
theorem three_at (w : World) (a b c : Value) (e : TypeId) : ∀ j u, [a, b, c][j]? = some u → (w.alloc (.cells #[a, b, c] e)).cell? ((⟨w.heap.size, 0, none⟩ : Addr).add j) = some u := by
  intro j u hj
  have e0 : (w.alloc (.cells #[a, b, c] e)).cell? ⟨w.heap.size, j, none⟩ = (#[a, b, c] : Array Value)[j]? := World.cell?_alloc_at _ _ _ _ (by simp)
  have e1 : (⟨w.heap.size, 0, none⟩ : Addr).add j = ⟨w.heap.size, j, none⟩ := by simp [Addr.add]; intro h; exact h.symm
  rw [e1, e0]; simpa using hj

/- What a loop that gathers events holds. -/
structure EvSt (w wr : World) (v : Value) (l : List Ev2) : Prop where
  bel : Below w.heap.size w wr
  own : wr.ownsRow w.heap.size 35 3 v l.length (evC (bareV l))
theorem EvSt.nil (w : World) : EvSt w w (.slice none 0 0) [] := ⟨Below.refl _ _, World.ownsRow_nil _ _ _ _⟩
theorem EvSt.later {w wr w1 : World} {v : Value} {l : List Ev2} (h : EvSt w wr v l) (hb : Below wr.heap.size wr w1) : EvSt w w1 v l :=
  ⟨h.bel.trans (hb.mono h.bel.size), own_below h.own hb⟩
theorem EvSt.step {w w1 w2 : World} {v v' : Value} {l : List Ev2} {s : ByteArray} {i : Int} {o : Obj} (h : EvSt w w1 v l) (hown : w2.ownsRow w.heap.size 35 3 v' (l.length + 1) (evC (bareV l) ++ [.string s, .int .i64 i, .slice none 0 0])) (hgr : (w1.alloc o).grownBy w2 v.ownBlock) : EvSt w w2 v' (l ++ [(s, i)]) := by
  have hz : (w1.alloc o).heap.size = w1.heap.size + 1 := by simp
  have h1 := h.bel.size
  refine ⟨(h.bel.alloc (by omega) _).grown hgr (by omega) (fun k he => by have := (h.own.lt _ he).1; omega), ?_⟩
  rw [bareV_snoc, evC_snoc]
  simpa using hown
theorem EvSt.row {w wr : World} {v : Value} {l : List Ev2} (h : EvSt w wr v l) : ∃ ao b cap, v = .slice ao l.length cap ∧ l.length ≤ cap ∧ cap ≤ maxLen ∧ EvV wr ao b 0 (bareV l) := by
  have h1 := h.own
  rw [← bareV_len] at h1
  obtain ⟨ao, b, cap, g1, g2, g3, g4⟩ := ev_of_own h1 (bareV_sl l)
  rw [bareV_len] at g1 g2
  exact ⟨ao, b, cap, g1, g2, g3, g4⟩
end Go.Proofs.YtfhpmnghakhlkaaDoor
