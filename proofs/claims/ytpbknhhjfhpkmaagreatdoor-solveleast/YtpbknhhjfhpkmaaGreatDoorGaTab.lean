/- The table of whole, as it is filled: plain, and in memory. Contract of chief.whole. -/
import Derived.Test.YtpbknhhjfhpkmaaGreatDoorAct
import Derived.Test.YtpbknhhjfhpkmaaGreatDoorGrow
import Derived.WalkKit
import Derived.ProofKit
import Derived.Test.YtpbknhhjfhpkmaaGreatDoorCheck
import Derived.Deep.WholeRow
import Derived.Deep.CutBlock
import Derived.Deep.RegionWith
import Derived.BigRegion
import Derived.Deep.DeepCutAuto
namespace Go.Proofs.YtpbknhhjfhpkmaaGreatDoor
open Go.RowKit

namespace Act
variable {α : Type} [DecidableEq α]
def upd (T : Nat → Nat → Bool) (x y : Nat) (v : Bool) (a c : Nat) : Bool := if a = x ∧ c = y then v else T a c
def diag (k x y : Nat) : Bool := decide (x = y ∧ x < k)
theorem diag_step (k : Nat) : upd (diag k) k k true = diag (k + 1) := by
  funext x y
  simp only [upd, diag]
  by_cases h : x = k ∧ y = k
  · obtain ⟨rfl, rfl⟩ := h; simp
  · rw [if_neg h, Bool.eq_iff_iff]; simp only [decide_eq_true_eq]; omega
def tabE (ls : List α) (ps : List (α × α)) (n j x y : Nat) : Bool := diag n x y || edge ls (ps.take j) x y
theorem tabE_zero (ls : List α) (ps : List (α × α)) (n : Nat) : tabE ls ps n 0 = diag n := by funext x y; simp [tabE, edge]
theorem tabE_all (ls : List α) (ps : List (α × α)) (n j : Nat) (h : ps.length ≤ j) : tabE ls ps n j = D (edge ls ps) n 0 := by
  funext x y
  simp only [tabE, List.take_of_length_le h, D, diag]
theorem tabE_step (ls : List α) (ps : List (α × α)) (n : Nat) {j : Nat} (hj : j < ps.length) {x y : Nat} (hx : pos ls ps[j].1 = x) (hy : pos ls ps[j].2 = y) : upd (tabE ls ps n j) x y true = tabE ls ps n (j + 1) := by
  funext a c
  simp only [upd, tabE, edge, List.take_succ_eq_append_getElem hj, List.any_append, List.any_cons, List.any_nil, Bool.or_false, hx, hy]
  by_cases h : a = x ∧ c = y
  · obtain ⟨rfl, rfl⟩ := h; simp
  · rw [if_neg h]
    have : (x == a && y == c) = false := by
      rw [Bool.eq_false_iff]; simp only [ne_eq, Bool.and_eq_true, beq_iff_eq]; omega
    rw [this]; simp
/- In round k, at the place i, j. -/
def mix (E : Nat → Nat → Bool) (n k i j x y : Nat) : Bool := if x < i ∨ (x = i ∧ y < j) then D E n (k + 1) x y else D E n k x y
variable (E : Nat → Nat → Bool) (n : Nat)
theorem mix_ij (k i j : Nat) : mix E n k i j i j = D E n k i j := by simp [mix]
theorem mix_ik (k i j : Nat) : mix E n k i j i k = D E n k i k := by simp [mix, D_col]
theorem mix_kj (k i j : Nat) : mix E n k i j k j = D E n k k j := by simp [mix, D_row]
theorem mix_step (k i j : Nat) : upd (mix E n k i j) i j (D E n k i j || (D E n k i k && D E n k k j)) = mix E n k i (j + 1) := by
  funext x y
  by_cases h : x = i ∧ y = j
  · obtain ⟨rfl, rfl⟩ := h; simp [upd, mix, D]
  · simp only [upd, if_neg h, mix]
    have : (x < i ∨ x = i ∧ y < j) ↔ (x < i ∨ x = i ∧ y < j + 1) := by omega
    simp only [this]
theorem mix_zero (k : Nat) : mix E n k 0 0 = D E n k := by funext x y; simp [mix]
theorem D_out {ls : List α} {ps : List (α × α)} (hr : Right ls ps) (k : Nat) {x y : Nat} (h : ls.length ≤ x ∨ ls.length ≤ y) : D (edge ls ps) ls.length k x y = false := by
  cases hd : D (edge ls ps) ls.length k x y with
  | false => rfl
  | true => obtain ⟨h1, h2, _⟩ := D_in ls ps hr k x y hd; omega
theorem mix_row {ls : List α} {ps : List (α × α)} (hr : Right ls ps) (k i : Nat) : mix (edge ls ps) ls.length k i ls.length = mix (edge ls ps) ls.length k (i + 1) 0 := by
  funext x y
  simp only [mix]
  by_cases hy : ls.length ≤ y
  · rw [D_out hr _ (.inr hy), D_out hr _ (.inr hy)]; simp
  · have : (x < i ∨ x = i ∧ y < ls.length) ↔ (x < i + 1 ∨ x = i + 1 ∧ y < 0) := by omega
    simp only [this]
theorem mix_all {ls : List α} {ps : List (α × α)} (hr : Right ls ps) (k : Nat) : mix (edge ls ps) ls.length k ls.length 0 = D (edge ls ps) ls.length (k + 1) := by
  funext x y
  simp only [mix]
  by_cases hx : ls.length ≤ x
  · rw [D_out hr _ (.inl hx), D_out hr _ (.inl hx)]; simp
  · rw [if_pos (by omega)]
end Act

def tabC (T : Nat → Nat → Bool) : Array Value := ((List.range 36).map fun k => Value.bool (T (k / 6) (k % 6))).toArray
theorem tabC_size (T : Nat → Nat → Bool) : (tabC T).size = 36 := by simp [tabC]
theorem tabC_get (T : Nat → Nat → Bool) {x y : Nat} (hx : x < 6) (hy : y < 6) : (tabC T)[x * 6 + y]? = some (.bool (T x y)) := by
  have h : x * 6 + y < 36 := by omega
  have e1 : (x * 6 + y) / 6 = x := by omega
  have e2 : (x * 6 + y) % 6 = y := by omega
  simp [tabC, h, e1, e2]
theorem tabC_set (T : Nat → Nat → Bool) {x y : Nat} (_hx : x < 6) (hy : y < 6) (v : Bool) : (tabC T).setIfInBounds (x * 6 + y) (.bool v) = tabC (Act.upd T x y v) := by
  apply Array.ext
  · simp [tabC]
  · intro k h1 h2
    have hk : k < 36 := by simpa [tabC] using h2
    rw [Array.getElem_setIfInBounds]
    · by_cases e : x * 6 + y = k
      · subst e
        have e1 : (x * 6 + y) / 6 = x := by omega
        have e2 : (x * 6 + y) % 6 = y := by omega
        simp [tabC, Act.upd, e1, e2]
      · have : ¬ (k / 6 = x ∧ k % 6 = y) := by omega
        simp [tabC, Act.upd, e, this]
    · simpa [tabC] using hk
theorem tabC_none : tabC (fun _ _ => false) = #[.bool false, .bool false, .bool false, .bool false, .bool false, .bool false, .bool false, .bool false, .bool false, .bool false, .bool false, .bool false, .bool false, .bool false, .bool false, .bool false, .bool false, .bool false, .bool false, .bool false, .bool false, .bool false, .bool false, .bool false, .bool false, .bool false, .bool false, .bool false, .bool false, .bool false, .bool false, .bool false, .bool false, .bool false, .bool false, .bool false] := by kernel_rfl
def TabAt (w : World) (q : Nat) (T : Nat → Nat → Bool) : Prop := w.heap[q]? = some (.cells (tabC T) 154 (0, 0))
theorem TabAt.cell {w : World} {q : Nat} {T : Nat → Nat → Bool} (h : TabAt w q T) {x y : Nat} (hx : x < 6) (hy : y < 6) : w.cell? ⟨q, x * 6 + y, none⟩ = some (.bool (T x y)) := by
  unfold TabAt at h
  simp [World.cell?, h]
  rw [tabC_get T hx hy]
theorem TabAt.free {w : World} {q : Nat} {T : Nat → Nat → Bool} (h : TabAt w q T) (x : Nat) : w.frozen? ⟨q, x, none⟩ = false := by
  unfold TabAt at h
  simp [World.frozen?, h]
theorem TabAt.set {w : World} {q : Nat} {T : Nat → Nat → Bool} (h : TabAt w q T) {x y : Nat} (hx : x < 6) (hy : y < 6) (v : Bool) : TabAt (w.setCell ⟨q, x * 6 + y, none⟩ (.bool v)) q (Act.upd T x y v) := by
  unfold TabAt at h ⊢
  rw [heap_setCell_same w q _ _ _ _ h, tabC_set T hx hy]
/- The state of whole: its result's block, its table's. -/
structure TabSt (w wr : World) (T : Nat → Nat → Bool) : Prop where
  bel : Below w.heap.size w wr
  res : TabAt wr w.heap.size (fun _ _ => false)
  tab : TabAt wr (w.heap.size + 1) T
theorem TabSt.set {w wr : World} {T : Nat → Nat → Bool} (h : TabSt w wr T) {x y : Nat} (hx : x < 6) (hy : y < 6) (v : Bool) : TabSt w (wr.setCell ⟨w.heap.size + 1, x * 6 + y, none⟩ (.bool v)) (Act.upd T x y v) :=
  ⟨h.bel.setCell (by simp) _, heap_past_set h.res (by simp), h.tab.set hx hy v⟩
theorem TabSt.alloc {w wr : World} {T : Nat → Nat → Bool} (h : TabSt w wr T) (o : Obj) : TabSt w (wr.alloc o) T :=
  ⟨h.bel.alloc h.bel.size o, heap_past_alloc h.res, heap_past_alloc h.tab⟩
theorem below_setRow {B : Nat} {a w : World} (h : Below B a w) {g : Nat} (hg : B ≤ g) (c : Array Value) : Below B a (w.setRow g c) :=
  ⟨h.os, h.tape, h.output, by simpa [World.setRow] using h.size, fun k hk => by
    rw [← h.block k hk]
    simp only [World.setRow]
    rw [Array.getElem?_modify, if_neg (by omega)]⟩
theorem tabC_one (T : Nat → Nat → Bool) : (tabC T).all (·.oneCell') = true := by
  rw [Array.all_eq_true_iff_forall_mem]
  intro v hv
  simp only [tabC, List.mem_toArray, List.mem_map] at hv
  obtain ⟨_, _, rfl⟩ := hv
  rfl
theorem TabSt.drew {w wr : World} {T : Nat → Nat → Bool} (h : TabSt w wr T) : TabSt w wr.drew T := ⟨⟨h.bel.os, h.bel.tape, h.bel.output, h.bel.size, h.bel.block⟩, h.res, h.tab⟩
theorem TabSt.drewN {w wr : World} {T : Nat → Nat → Bool} (h : TabSt w wr T) (n : Nat) : TabSt w (wr.drewN n) T := ⟨⟨h.bel.os, h.bel.tape, h.bel.output, h.bel.size, h.bel.block⟩, h.res, h.tab⟩
end Go.Proofs.YtpbknhhjfhpkmaaGreatDoor

namespace Go.Proofs.YtpbknhhjfhpkmaaGreatDoor
open Go.RowKit

set_option maxHeartbeats 2000000 in
theorem whole_any (ao po : Option Addr) (b off b' off' n m c d : Nat) (ls : List ByteArray) (ps : List (ByteArray × ByteArray)) (w : World) (hn : n = ls.length) (hm : m = ps.length) (hn6 : n ≤ 6) (hm10 : m ≤ 10)
    (ht : Strs w ao b off ls) (hp : Prs w po b' off' ps) (hr : Act.Right ls ps) :
    Calls Tryz.prog 85 #[.slice ao n c, .slice po m d] w fun e w' => e = .returned (.agg (tabC (Act.whole ls ps))) ∧ Below w.heap.size w w' := by
  have HL : Hid (n = ls.length) := hn
  have HM : Hid (m = ps.length) := hm
  have HR : Hid (Act.Right ls ps) := hr
  clear hn hm hr
  go_enter Tryz.func85, Tryz.ntmps85
  go_wp2
  go_loopw [14] (fun v wr => ∃ k : Nat, k ≤ n ∧ v = .int .i64 k ∧ Hid (TabSt w wr (Act.diag k))) (fun v _ => n - (intOf v).toNat)
  case atStart =>
    refine ⟨0, Nat.zero_le _, rfl, ?_⟩
    have e : Act.diag 0 = fun _ _ => false := by funext x y; simp [Act.diag]
    rw [e]
    refine ⟨((Below.refl _ _).alloc (Nat.le_refl _) _).alloc (by simp) _, ?_, ?_⟩
    · rw [TabAt, tabC_none]; exact heap_past_alloc (heap_at_alloc _ _ _ rfl)
    · rw [TabAt, tabC_none]; exact heap_at_alloc _ _ _ (by simp)
  case round =>
    obtain ⟨k, hk, rfl, HT⟩ := hrel
    by_cases hlt : k < n
    · have f0 := HT.out.tab.cell (x := k) (y := k) (by omega) (by omega)
      have z0 := HT.out.tab.free (k * 6 + k)
      have l0 := lt_of_block HT.out.tab
      go_wp2
      go_roundw
      case rel =>
        refine ⟨k + 1, by omega, by go_num, ?_⟩
        rw [← Act.diag_step]
        exact HT.out.set (by omega) (by omega) true
      case measure => simp [intOf]; omega
    · have hkn : k = n := by omega
      subst hkn
      go_wp2
      go_loopw [24] (fun v wr => ∃ j : Nat, j ≤ m ∧ v = .int .i64 j ∧ Hid (TabSt w wr (Act.tabE ls ps k j))) (fun v _ => m - (intOf v).toNat)
      case atStart => exact ⟨0, Nat.zero_le _, rfl, by rw [Act.tabE_zero]; exact HT⟩
      case round =>
        clear HT
        obtain ⟨j, hj, rfl, HT⟩ := hrel
        by_cases hlt2 : j < m
        · have hl0 := HM.out
          have hpo := hp.adr (by omega)
          subst hpo
          have hjl : j < ps.length := by omega
          have hp' := hp.later HT.out.bel
          have ht' : ∀ (o : Obj) (w' : World), w'.heap = (wr.alloc o).heap → Strs w' ao b off ls := fun o w' e => Strs.of_heap ((ht.later HT.out.bel).later ((Below.refl _ _).alloc (Nat.le_refl _) o)) e
          have f0 := hp'.c0 j hjl
          have f1 := hp'.c1 j hjl
          obtain ⟨x, hx⟩ : ∃ x, x = ps[j] := ⟨_, rfl⟩
          rw [← hx] at f0 f1
          have hm1 := (HR.out.mem x (hx ▸ List.getElem_mem hjl)).1
          have hm2 := (HR.out.mem x (hx ▸ List.getElem_mem hjl)).2
          obtain ⟨x1, x2⟩ := x
          simp only at f0 f1 hm1 hm2
          have HX : Hid ((x1, x2) = ps[j]) := hx
          obtain ⟨p1, hp1⟩ : ∃ p1, Act.pos ls x1 = p1 := ⟨_, rfl⟩
          obtain ⟨p2, hp2⟩ : ∃ p2, Act.pos ls x2 = p2 := ⟨_, rfl⟩
          have P1 : Hid (Act.posI ls x1 = (p1 : Int)) := by show _ = _; rw [Act.posI_mem hm1, hp1]
          have P2 : Hid (Act.posI ls x2 = (p2 : Int)) := by show _ = _; rw [Act.posI_mem hm2, hp2]
          have b1 : p1 < k := by have := Act.pos_lt hm1; have := HL.out; omega
          have b2 : p2 < k := by have := Act.pos_lt hm2; have := HL.out; omega
          have HS : Hid (Act.upd (Act.tabE ls ps k j) p1 p2 true = Act.tabE ls ps k (j + 1)) := Act.tabE_step ls ps k hjl (by rw [← HX.out]; exact hp1) (by rw [← HX.out]; exact hp2)
          have HT' := fun o => HT.out.alloc o
          have g0 := fun o => (HT' o).tab.cell (x := p1) (y := p2) (by omega) (by omega)
          have z0 := fun o => (HT' o).tab.free (p1 * 6 + p2)
          have l0 := lt_of_block HT.out.tab
          have KT : Hid (∀ (o : Obj) (w' : World), w'.heap = (wr.alloc o).heap → Strs w' ao b off ls) := ht'
          clear hl0 hx hp' ht' hm1 hm2 HT' hp1 hp2
          go_wp2
          go_region_with (go_at_call 60; refine (index_gen HL (by omega) (by exact KT.out (.cells #[.string x1, .string x2] 115) _ rfl)).mono ?_; rintro e w' ⟨rfl, rfl⟩; first | rw [P1.out] | rw [P2.out])
          all_goals (try go_wp2_with fail)
          all_goals go_roundw
          all_goals first
            | (refine ⟨j + 1, by omega, by go_num, ?_⟩
               show TabSt _ _ _
               rw [← HS.out]
               repeat (first | refine TabSt.drew ?_ | refine TabSt.drewN ?_ _)
               exact (HT.out.set (by omega) (by omega) true).alloc _)
            | (simp [intOf]; omega)
        · have HJ : Hid (TabSt w wr (Act.D (Act.edge ls ps) k 0)) := by
            have := HT.out
            rwa [Act.tabE_all ls ps k j (by have := HM.out; omega)] at this
          clear HT
          go_wp2
          go_loopw [41] (fun v wr => ∃ q : Nat, q ≤ k ∧ v = .int .i64 q ∧ Hid (TabSt w wr (Act.D (Act.edge ls ps) k q))) (fun v _ => k - (intOf v).toNat)
          case atStart => exact ⟨0, Nat.zero_le _, rfl, HJ⟩
          case round =>
            clear HJ
            obtain ⟨q, hq, rfl, HT⟩ := hrel
            by_cases hltq : q < k
            · go_wp2
              go_loopw [46] (fun v wr => ∃ i : Nat, i ≤ k ∧ v = .int .i64 i ∧ Hid (TabSt w wr (Act.mix (Act.edge ls ps) k q i 0))) (fun v _ => k - (intOf v).toNat)
              case atStart => exact ⟨0, Nat.zero_le _, rfl, by rw [Act.mix_zero]; exact HT⟩
              case round =>
                clear HT
                obtain ⟨i, hi, rfl, HT⟩ := hrel
                by_cases hlti : i < k
                · go_wp2
                  go_loopw [51] (fun v wr => ∃ j : Nat, j ≤ k ∧ v = .int .i64 j ∧ Hid (TabSt w wr (Act.mix (Act.edge ls ps) k q i j))) (fun v _ => k - (intOf v).toNat)
                  case atStart => exact ⟨0, Nat.zero_le _, rfl, HT⟩
                  case round =>
                    clear HT
                    obtain ⟨j, hj, rfl, HT⟩ := hrel
                    by_cases hltj : j < k
                    · have f1 := HT.out.tab.cell (x := i) (y := j) (by omega) (by omega)
                      have f2 := HT.out.tab.cell (x := i) (y := q) (by omega) (by omega)
                      have f3 := HT.out.tab.cell (x := q) (y := j) (by omega) (by omega)
                      rw [Act.mix_ij] at f1
                      rw [Act.mix_ik] at f2
                      rw [Act.mix_kj] at f3
                      have z0 := HT.out.tab.free (i * 6 + j)
                      have l0 := lt_of_block HT.out.tab
                      have hs := Act.mix_step (Act.edge ls ps) k q i j
                      obtain ⟨va, ha⟩ : ∃ va, Act.D (Act.edge ls ps) k q i j = va := ⟨_, rfl⟩
                      obtain ⟨vb, hb⟩ : ∃ vb, Act.D (Act.edge ls ps) k q i q = vb := ⟨_, rfl⟩
                      obtain ⟨vc, hc⟩ : ∃ vc, Act.D (Act.edge ls ps) k q q j = vc := ⟨_, rfl⟩
                      rw [ha] at f1
                      rw [hb] at f2
                      rw [hc] at f3
                      rw [ha, hb, hc] at hs
                      have HS : Hid (Act.upd (Act.mix (Act.edge ls ps) k q i j) i j (va || (vb && vc)) = Act.mix (Act.edge ls ps) k q i (j + 1)) := hs
                      have i1 : (i : Int) < 6 := by omega
                      have i2 : (j : Int) < 6 := by omega
                      have i3 : (q : Int) < 6 := by omega
                      clear ha hb hc hs
                      cases va
                      · cases vb
                        · go_wp2
                          go_region
                          all_goals (try go_wp2_with fail)
                          all_goals go_roundw
                          case rel =>
                            refine ⟨j + 1, by omega, by go_num, ?_⟩
                            show TabSt _ _ _
                            rw [← HS.out]
                            repeat (first | refine TabSt.drew ?_ | refine TabSt.drewN ?_ _)
                            exact HT.out.set (by omega) (by omega) _
                          case measure => simp [intOf]; omega
                        · go_wp2
                          go_region
                          all_goals (try go_wp2_with fail)
                          all_goals go_roundw
                          case rel =>
                            refine ⟨j + 1, by omega, by go_num, ?_⟩
                            show TabSt _ _ _
                            rw [← HS.out]
                            repeat (first | refine TabSt.drew ?_ | refine TabSt.drewN ?_ _)
                            exact HT.out.set (by omega) (by omega) _
                          case measure => simp [intOf]; omega
                      · go_wp2
                        go_region
                        all_goals (try go_wp2_with fail)
                        all_goals go_roundw
                        case rel =>
                          refine ⟨j + 1, by omega, by go_num, ?_⟩
                          show TabSt _ _ _
                          rw [← HS.out]
                          repeat (first | refine TabSt.drew ?_ | refine TabSt.drewN ?_ _)
                          exact HT.out.set (by omega) (by omega) _
                        case measure => simp [intOf]; omega
                    · have hjk : j = k := by omega
                      have HN : Hid (TabSt w wr (Act.mix (Act.edge ls ps) k q (i + 1) 0)) := by
                        have h1 := HT.out
                        have h2 := Act.mix_row HR.out q i
                        rw [← HL.out] at h2
                        rw [hjk, h2] at h1
                        exact h1
                      clear hjk
                      go_wp2
                      go_roundw
                      case rel => exact ⟨i + 1, by omega, by go_num, HN⟩
                      case measure => simp [intOf]; omega
                · have hik : i = k := by omega
                  have HN : Hid (TabSt w wr (Act.D (Act.edge ls ps) k (q + 1))) := by
                    have h1 := HT.out
                    have h2 := Act.mix_all HR.out q
                    rw [← HL.out] at h2
                    rw [hik, h2] at h1
                    exact h1
                  clear hik
                  go_wp2
                  go_roundw
                  case rel => exact ⟨q + 1, by omega, by go_num, HN⟩
                  case measure => simp [intOf]; omega
            · have hqk : q = k := by omega
              have HE : Hid (TabSt w wr (Act.whole ls ps)) := by
                have h1 := HT.out
                rw [hqk] at h1
                unfold Act.whole
                rw [← HL.out]
                exact h1
              clear hqk HT
              have hres := HE.out.res
              have htab := HE.out.tab
              have l0 := lt_of_block hres
              have l1 := lt_of_block htab
              have HI : Hid ((Tryz.prog.info? 154).map (·.size) = some 36) := by show _ = _; kernel_rfl
              go_upto_region 25 with fail
              refine wp_region_lit ?_
              refine wpList_load_row rfl 154 _ rfl (w.heap.size + 1) rfl 154 (tabC (Act.whole ls ps)) (0, 0) _ HE.out.tab Tryz.underlying154 rfl (by rw [HI.out, tabC_size]) ?_
              refine wpList_store_row rfl 154 _ _ rfl w.heap.size (tabC (Act.whole ls ps)) rfl rfl 154 _ HE.out.res (by rw [HI.out, tabC_size]) (by rw [tabC_size, tabC_size]) (tabC_one _) ?_
              have HW : Hid ((wr.setRow w.heap.size (tabC (Act.whole ls ps))).heap[w.heap.size]? = some (.cells (tabC (Act.whole ls ps)) 154 (0, 0))) := setRow_heap _ _ _ _ _ _ HE.out.res
              have HB : Hid (Below w.heap.size w (wr.setRow w.heap.size (tabC (Act.whole ls ps)))) := below_setRow HE.out.bel (Nat.le_refl _) _
              obtain ⟨wz, hwz⟩ : ∃ wz, wz = wr.setRow w.heap.size (tabC (Act.whole ls ps)) := ⟨_, rfl⟩
              rw [← hwz] at HW HB ⊢
              obtain ⟨TT, hTT⟩ : ∃ TT, TT = tabC (Act.whole ls ps) := ⟨_, rfl⟩
              rw [← hTT] at HW ⊢
              clear hwz
              go_wp2_with fail
              refine bodyPost_ret (v := .agg TT) (results_cell_row rfl _ _ w.heap.size 154 TT (0, 0) _ rfl HW.out Tryz.underlying154 rfl (by rw [HI.out, hTT, tabC_size])) rfl ⟨?_, HB.out⟩
              rw [hTT]
end Go.Proofs.YtpbknhhjfhpkmaaGreatDoor
