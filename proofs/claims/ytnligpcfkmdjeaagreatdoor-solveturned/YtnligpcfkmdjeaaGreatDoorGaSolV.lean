/- Contracts of solve's ways: goal, the getters. Contract of solve.least's put. -/
import Derived.Test.YtnligpcfkmdjeaaGreatDoorSolU
import Derived.Laws.StructEq
import Derived.Lib.LazyBuf
import Derived.Deep.Upon
namespace Go.Proofs.YtnligpcfkmdjeaaGreatDoor
open Go.RowKit

theorem load_set {w : World} {g : Nat} {s : Nat → Nat} (h : SetAt w g s) : (loadCellsFrom ⟨g, 0, none⟩ 0 6 #[]).run Tryz.prog w = .ok (setA s) w := by
  have := run_loadCells_list (P := Tryz.prog) w ⟨g, 0, none⟩ (setA s).toList (fun j v hv => by
    have hadd : (⟨g, 0, none⟩ : Addr).add j = ⟨g, j, none⟩ := by unfold Addr.add; split <;> simp_all
    rw [hadd, cell_of_row _ _ j (setA s) 65 (0, 0) h]
    simpa using hv)
  rw [show (setA s).toList.length = 6 from rfl] at this
  simpa [loadCells] using this
theorem store_set {w : World} {g : Nat} {s : Nat → Nat} (h : SetAt w g s) (t : Nat → Nat) : (storeCells ⟨g, 0, none⟩ (setA t).toList 0).run Tryz.prog w = .ok () (w.setRow g (setA t)) := by
  have := run_storeVar_row (P := Tryz.prog) w g 65 65 (setA s) (setA t) h (by rw [Tryz.infoSet, setA_size]) (by rw [setA_size, setA_size]) (setA_one t)
  have hi := Tryz.infoSet
  cases hq : Tryz.prog.info? 65 with
  | none => simp [hq] at hi
  | some i =>
    have hs : (setA t).size = i.size := by simp [hq] at hi; rw [setA_size]; omega
    simpa [storeVar, sizeOf, typeInfo, hq, Value.cells, hs] using this

set_option maxRecDepth 100000 in
set_option maxHeartbeats 4000000 in
theorem goalC (gf : Nat) (lb : Array Value) (eg : ∀ args w, (callFunc gf args).run Tryz.prog w = .ok (.enter gf args) w) (f : Nat → Nat → Nat) (b off : Nat) (v : WayV) (w : World) (hv : WyAt w b off v)
    (hget : ∀ (W : World), v.dst ≠ -1 → Below w.heap.size w W → Calls Tryz.prog gf (#[.int .i64 v.dst] ++ lb) W fun e w' => e = .returned (.agg (setA (f v.dst.toNat))) ∧ Below W.heap.size W w') :
    Calls Tryz.prog 53 #[.pointer (some ⟨b, off, none⟩), .func (.func gf) #[] lb] w fun e w' => e = .returned (.agg (setA (goalV f v))) ∧ Below w.heap.size w w' := by
  have HI : Hid ((Tryz.prog.info? 65).map (·.size) = some 6) := Tryz.infoSet
  obtain ⟨R, hR⟩ : ∃ R, R = goalV f v := ⟨_, rfl⟩
  rw [← hR]
  have lb' := World.block_lt_of_cell? w _ hv.c2
  have c2 := hv.c2
  have hz : (w.alloc (.cells #[.int .u64 0, .int .u64 0, .int .u64 0, .int .u64 0, .int .u64 0, .int .u64 0] 65)).heap[w.heap.size]? = some (.cells (setA fun _ => 0) 65 (0, 0)) := heap_at_alloc _ _ _ rfl
  have hbz : Below w.heap.size w (w.alloc (.cells #[.int .u64 0, .int .u64 0, .int .u64 0, .int .u64 0, .int .u64 0, .int .u64 0] 65)) := (Below.refl _ _).alloc (Nat.le_refl _) _
  have HZ : Hid (SetAt (w.alloc (.cells #[.int .u64 0, .int .u64 0, .int .u64 0, .int .u64 0, .int .u64 0, .int .u64 0] 65)) w.heap.size (fun _ => 0)) := hz
  have HBZ : Hid (Below w.heap.size w (w.alloc (.cells #[.int .u64 0, .int .u64 0, .int .u64 0, .int .u64 0, .int .u64 0, .int .u64 0] 65))) := hbz
  by_cases h1 : v.dst = -1
  · have e1 : R = v.into := by rw [hR]; unfold goalV; rw [if_pos h1]
    have t0 := hv.c3 0 (by omega)
    have t1 := hv.c3 1 (by omega)
    have t2 := hv.c3 2 (by omega)
    have t3 := hv.c3 3 (by omega)
    have t4 := hv.c3 4 (by omega)
    have t5 := hv.c3 5 (by omega)
    rw [h1] at c2
    have HE : Hid (setA R = #[.int .u64 (v.into 0), .int .u64 (v.into 1), .int .u64 (v.into 2), .int .u64 (v.into 3), .int .u64 (v.into 4), .int .u64 (v.into 5)]) := by show _ = _; rw [e1]; rfl
    rw [HE.out]
    clear hR hz hbz hget hv h1 e1
    go_enter Tryz.func53, Tryz.ntmps53
    go_wp2
    refine bodyPost_ret (v := .agg #[.int .u64 (v.into 0), .int .u64 (v.into 1), .int .u64 (v.into 2), .int .u64 (v.into 3), .int .u64 (v.into 4), .int .u64 (v.into 5)]) (results_cell_row rfl _ _ w.heap.size 65 _ (0, 0) _ rfl (heap_at_alloc _ _ _ rfl) Tryz.underlying65 rfl (by rw [HI.out]; rfl)) rfl ⟨rfl, (Below.refl _ _).alloc (Nat.le_refl _) _⟩
  · have e1 : R = f v.dst.toNat := by rw [hR]; unfold goalV; rw [if_neg h1]
    have hcall := hget _ h1 hbz
    obtain ⟨d, hdd⟩ : ∃ d, d = v.dst := ⟨_, rfl⟩
    rw [← e1] at hcall
    rw [← hdd] at hcall h1 c2
    have hne : (d == -1) = false := by simpa using h1
    clear hR hz hbz hget hv e1 hdd
    go_enter Tryz.func53, Tryz.ntmps53
    go_wp2_with fail
    refine hcall.mono ?_
    rintro e w4 ⟨rfl, hb4⟩
    have HZ4 : Hid (SetAt w4 w.heap.size (fun _ => 0)) := HZ.out.later hb4
    have HB4 : Hid (Below w.heap.size w w4) := HBZ.out.trans (hb4.mono HBZ.out.size)
    have hst := store_set HZ4.out R
    have HW : Hid ((w4.setRow w.heap.size (setA R)).heap[w.heap.size]? = some (.cells (setA R) 65 (0, 0))) := setRow_heap _ _ _ _ _ _ HZ4.out
    have HB : Hid (Below w.heap.size w (w4.setRow w.heap.size (setA R))) := below_setRow' HB4.out (Nat.le_refl _) _
    have HRZ : Hid ((setA R).size = 6) := setA_size _
    obtain ⟨w6, hw6⟩ : ∃ w6, w6 = w4.setRow w.heap.size (setA R) := ⟨_, rfl⟩
    obtain ⟨TT, hTT⟩ : ∃ TT, TT = setA R := ⟨_, rfl⟩
    rw [← hw6] at hst HW HB
    rw [← hTT] at hst HW HRZ ⊢
    have HTT : Hid (TT = setA R) := hTT
    clear hw6 hTT hcall hb4
    go_wp2_with fail
    refine bodyPost_ret (v := .agg TT) (results_cell_row rfl _ _ w.heap.size 65 TT (0, 0) _ rfl HW.out Tryz.underlying65 rfl (by rw [HI.out, HRZ.out])) rfl ⟨by rw [HTT.out], HB.out⟩

/- Sets in a row. -/
structure SetsAt (w : World) (so : Option Addr) (sb soff n : Nat) (f : Nat → Nat → Nat) : Prop where
  adr : 0 < n → so = some ⟨sb, soff, none⟩
  cell : ∀ k, k < n → ∀ i, i < 6 → w.cell? ⟨sb, soff + k * 6 + i, none⟩ = some (.int .u64 (f k i))
  lt : 0 < n → sb < w.heap.size
theorem SetsAt.later {w w' : World} {so : Option Addr} {sb soff n : Nat} {f : Nat → Nat → Nat} (h : SetsAt w so sb soff n f) (hb : Below w.heap.size w w') : SetsAt w' so sb soff n f :=
  ⟨h.adr, fun k hk i hi => cell_below hb (h.cell k hk i hi), fun hn => Nat.lt_of_lt_of_le (h.lt hn) hb.size⟩

set_option maxRecDepth 100000 in
set_option maxHeartbeats 4000000 in
theorem getB (q : Nat) (so : Option Addr) (sb soff n sc : Nat) (f : Nat → Nat → Nat) (i : Nat) (w : World) (hi : i < n) (hq : w.cell? ⟨q, 0, none⟩ = some (.slice so n sc)) (hs : SetsAt w so sb soff n f) :
    Calls Tryz.prog 50 (#[.int .i64 (i : Int)] ++ #[.pointer (some ⟨q, 0, none⟩)]) w fun e w' => e = .returned (.agg (setA (f i))) ∧ Below w.heap.size w w' := by
  have HI : Hid ((Tryz.prog.info? 65).map (·.size) = some 6) := Tryz.infoSet
  have hso := hs.adr (by omega)
  have t0 : w.cell? ⟨sb, soff + i * 6, none⟩ = some (.int .u64 (f i 0)) := hs.cell i hi 0 (by omega)
  have t1 := hs.cell i hi 1 (by omega)
  have t2 := hs.cell i hi 2 (by omega)
  have t3 := hs.cell i hi 3 (by omega)
  have t4 := hs.cell i hi 4 (by omega)
  have t5 := hs.cell i hi 5 (by omega)
  have lq := World.block_lt_of_cell? w _ hq
  have ls := hs.lt (by omega)
  have i1 : (i : Int) < (n : Int) := by omega
  have HE : Hid (setA (f i) = #[.int .u64 (f i 0), .int .u64 (f i 1), .int .u64 (f i 2), .int .u64 (f i 3), .int .u64 (f i 4), .int .u64 (f i 5)]) := rfl
  rw [HE.out]
  clear hs
  subst hso
  show Calls Tryz.prog 50 #[.int .i64 (i : Int), .pointer (some ⟨q, 0, none⟩)] w _
  go_enter Tryz.func50, Tryz.ntmps50
  go_wp2
  refine bodyPost_ret (v := .agg #[.int .u64 (f i 0), .int .u64 (f i 1), .int .u64 (f i 2), .int .u64 (f i 3), .int .u64 (f i 4), .int .u64 (f i 5)]) (results_cell_row rfl _ _ w.heap.size 65 _ (0, 0) _ rfl (heap_at_alloc _ _ _ rfl) Tryz.underlying65 rfl (by rw [HI.out]; rfl)) rfl ⟨rfl, (Below.refl _ _).alloc (Nat.le_refl _) _⟩

set_option maxRecDepth 100000 in
set_option maxHeartbeats 4000000 in
theorem getL (q : Nat) (so : Option Addr) (sb soff n sc : Nat) (f : Nat → Nat → Nat) (i : Nat) (w : World) (hi : i < n) (hq : w.cell? ⟨q, 0, none⟩ = some (.slice so n sc)) (hs : SetsAt w so sb soff n f) :
    Calls Tryz.prog 64 (#[.int .i64 (i : Int)] ++ #[.pointer (some ⟨q, 0, none⟩)]) w fun e w' => e = .returned (.agg (setA (f i))) ∧ Below w.heap.size w w' := by
  have HI : Hid ((Tryz.prog.info? 65).map (·.size) = some 6) := Tryz.infoSet
  have hso := hs.adr (by omega)
  have t0 : w.cell? ⟨sb, soff + i * 6, none⟩ = some (.int .u64 (f i 0)) := hs.cell i hi 0 (by omega)
  have t1 := hs.cell i hi 1 (by omega)
  have t2 := hs.cell i hi 2 (by omega)
  have t3 := hs.cell i hi 3 (by omega)
  have t4 := hs.cell i hi 4 (by omega)
  have t5 := hs.cell i hi 5 (by omega)
  have lq := World.block_lt_of_cell? w _ hq
  have ls := hs.lt (by omega)
  have i1 : (i : Int) < (n : Int) := by omega
  have HE : Hid (setA (f i) = #[.int .u64 (f i 0), .int .u64 (f i 1), .int .u64 (f i 2), .int .u64 (f i 3), .int .u64 (f i 4), .int .u64 (f i 5)]) := rfl
  rw [HE.out]
  clear hs
  subst hso
  show Calls Tryz.prog 64 #[.int .i64 (i : Int), .pointer (some ⟨q, 0, none⟩)] w _
  go_enter Tryz.func64, Tryz.ntmps64
  go_wp2
  refine bodyPost_ret (v := .agg #[.int .u64 (f i 0), .int .u64 (f i 1), .int .u64 (f i 2), .int .u64 (f i 3), .int .u64 (f i 4), .int .u64 (f i 5)]) (results_cell_row rfl _ _ w.heap.size 65 _ (0, 0) _ rfl (heap_at_alloc _ _ _ rfl) Tryz.underlying65 rfl (by rw [HI.out]; rfl)) rfl ⟨rfl, (Below.refl _ _).alloc (Nat.le_refl _) _⟩
end Go.Proofs.YtnligpcfkmdjeaaGreatDoor

namespace Go.Proofs.YtnligpcfkmdjeaaGreatDoor
open Go.RowKit

theorem Tryz.infoU64 : (Tryz.prog.info? 63).map (fun i => (i.zero, i.size, i.bytes)) = some (some (.int .u64 0), 1, 8) := by kernel_rfl
def sameS (s t : Nat → Nat) : Bool := decide (s 0 = t 0 ∧ s 1 = t 1 ∧ s 2 = t 2 ∧ s 3 = t 3 ∧ s 4 = t 4 ∧ s 5 = t 5)
theorem sameS_iff {s t : Nat → Nat} : sameS s t = true ↔ ∀ o, o < 6 → s o = t o := by
  unfold sameS
  rw [decide_eq_true_eq]
  constructor
  · rintro ⟨h0, h1, h2, h3, h4, h5⟩ o ho
    match o, ho with
    | 0, _ => exact h0
    | 1, _ => exact h1
    | 2, _ => exact h2
    | 3, _ => exact h3
    | 4, _ => exact h4
    | 5, _ => exact h5
  · intro h
    exact ⟨h 0 (by omega), h 1 (by omega), h 2 (by omega), h 3 (by omega), h 4 (by omega), h 5 (by omega)⟩
theorem beqN (a b : Nat) : ((a : Int) == (b : Int)) = decide (a = b) := by
  by_cases h : a = b
  · simp [h]
  · have h' : ¬ (a : Int) = (b : Int) := by omega
    simp [h, h']
theorem equal_set (s t : Nat → Nat) (w : World) : (Op.equal 65 (.agg (setA s)) (.agg (setA t))).run Tryz.prog w = .ok (sameS s t) w := by
  obtain ⟨i0, hi, _⟩ := info_parts Tryz.infoU64
  have hc : Tryz.prog.cellsOf 63 = 1 := by kernel_rfl
  show (Op.equalIn (9998 + 1 + 1) 65 _ _).run _ _ = _
  rw [run_equalIn_array w (9998 + 1) _ _ Tryz.underlying65 hi, hc]
  simp only [show List.range 6 = [0, 1, 2, 3, 4, 5] from rfl, Op.eqItems, Sem.run_bind, part, go_sem, Nat.zero_mul, Nat.one_mul, setA]
  simp [run_equalIn_int w _ 63 _ _ _ _ Tryz.underlying63, go_sem]
  unfold sameS
  by_cases h0 : s 0 = t 0 <;> by_cases h1 : s 1 = t 1 <;> by_cases h2 : s 2 = t 2 <;> by_cases h3 : s 3 = t 3 <;> by_cases h4 : s 4 = t 4 <;> by_cases h5 : s 5 = t 5 <;> simp [h0, h1, h2, h3, h4, h5, Int.ofNat_inj]
theorem neq_set (s t : Nat → Nat) (w : World) : (binOp .neq 65 (.agg (setA s)) (.agg (setA t))).run Tryz.prog w = .ok (.bool (!sameS s t)) w := by
  show (Bind.bind (Op.equal 65 (.agg (setA s)) (.agg (setA t))) fun r => (Pure.pure (Value.bool (!r)) : Sem Value)).run Tryz.prog w = _
  simp [equal_set]
theorem guard_set (x y : Operand) (a b : Array Value) (w : World) : (eqGuard .neq 65 x y (.agg a) (.agg b)).run Tryz.prog w = .ok () w := by
  have : Tryz.prog.eqGuardType Tryz.prog.depth 65 = false := by kernel_rfl
  simp [eqGuard, this, go_sem]

/- What least holds: the box of the sets that are found, the box of 'changed', the sets. -/
structure LeSt (B : Nat) (w0 w : World) (q5 q6 sb n sc : Nat) (f : Nat → Nat → Nat) (ch : Bool) : Prop where
  bel : Below B w0 w
  box : w.heap[q5]? = some (.cells #[.slice (some ⟨sb, 0, none⟩) n sc] 59 (0, 0))
  chg : w.heap[q6]? = some (.cells #[.bool ch] 4 (0, 0))
  row : ∀ k, k < n → ∀ i, i < 6 → w.cell? ⟨sb, k * 6 + i, none⟩ = some (.int .u64 (f k i))
  fre : ∀ x, w.frozen? ⟨sb, x, none⟩ = false
  lo : B ≤ sb ∧ sb < q5 ∧ q5 < q6
  lt : sb < w.heap.size
theorem LeSt.later {B : Nat} {w0 w w' : World} {q5 q6 sb n sc : Nat} {f : Nat → Nat → Nat} {ch : Bool} (h : LeSt B w0 w q5 q6 sb n sc f ch) (hb : Below w.heap.size w w') : LeSt B w0 w' q5 q6 sb n sc f ch :=
  ⟨h.bel.trans (hb.mono (by have := h.lo; have := h.lt; omega)), (hb.block _ (lt_of_block h.box)).trans h.box, (hb.block _ (lt_of_block h.chg)).trans h.chg, fun k hk i hi => cell_below hb (h.row k hk i hi), fun x => by
    have := h.fre x
    simp only [World.frozen?] at this ⊢
    rw [hb.block _ h.lt]; exact this, h.lo, Nat.lt_of_lt_of_le h.lt hb.size⟩
theorem LeSt.sets {B : Nat} {w0 w : World} {q5 q6 sb n sc : Nat} {f : Nat → Nat → Nat} {ch : Bool} (h : LeSt B w0 w q5 q6 sb n sc f ch) : SetsAt w (some ⟨sb, 0, none⟩) sb 0 n f :=
  ⟨fun _ => rfl, fun k hk i hi => by rw [Nat.zero_add]; exact h.row k hk i hi, fun _ => h.lt⟩
/- One set anew, and 'changed'. -/
theorem LeSt.put {B : Nat} {w0 w : World} {q5 q6 sb n sc : Nat} {f : Nat → Nat → Nat} {ch : Bool} (h : LeSt B w0 w q5 q6 sb n sc f ch) {i : Nat} (hi : i < n) (t : Nat → Nat) :
    LeSt B w0 ((w.setCells sb (i * 6) (setA t).toList).setCell ⟨q6, 0, none⟩ (.bool true)) q5 q6 sb n sc (Sol.putF f i t) true := by
  obtain ⟨h1, h2, h3⟩ := h.lo
  have hsome : ∀ j, j < (setA t).toList.length → (w.cell? ⟨sb, i * 6 + j, none⟩).isSome = true := fun j hj => by
    rw [h.row i hi j hj]; rfl
  have hq5 : (w.setCells sb (i * 6) (setA t).toList).heap[q5]? = w.heap[q5]? := World.heap_setCells_other w sb _ _ (lt_of_block h.box) (by omega)
  have hq6 : (w.setCells sb (i * 6) (setA t).toList).heap[q6]? = w.heap[q6]? := World.heap_setCells_other w sb _ _ (lt_of_block h.chg) (by omega)
  refine ⟨(below_setCells (by omega) _ _ _ h.bel).setCell (p := ⟨q6, 0, none⟩) (by show B ≤ q6; omega) _, ?_, ?_, fun k hk j hj => ?_, fun x => ?_, h.lo, ?_⟩
  · rw [Below.heap_setCell _ _ _ _ (by show q5 ≠ q6; omega), hq5]; exact h.box
  · exact heap_setCell_same _ _ _ _ _ _ (hq6.trans h.chg)
  · rw [World.cell?_setCell_far _ _ _ _ (by show q6 ≠ sb; omega)]
    by_cases e : k = i
    · subst e
      have hin := World.cell?_setCells_in sb (setA t).toList (k * 6) w hsome j hj
      rw [hin]
      unfold Sol.putF
      rw [if_pos rfl]
      have := setA_at t hj
      rw [← Array.getElem?_toList, List.getElem?_eq_getElem hj] at this
      exact this
    · have hout := World.cell?_setCells_out sb (setA t).toList (i * 6) w ⟨sb, k * 6 + j, none⟩ (fun _ _ => by
        show k * 6 + j < i * 6 ∨ i * 6 + 6 ≤ k * 6 + j
        omega)
      rw [hout, h.row k hk j hj]
      unfold Sol.putF
      rw [if_neg e]
  · rw [World.frozen?_setCell, World.frozen?_setCells]; exact h.fre x
  · have := (below_setCells (b := sb) (B := sb) (Nat.le_refl _) (setA t).toList (i * 6) w (Below.refl sb w)).size
    have h4 := h.lt
    have h5 : ((w.setCells sb (i * 6) (setA t).toList).setCell ⟨q6, 0, none⟩ (.bool true)).heap.size = (w.setCells sb (i * 6) (setA t).toList).heap.size := by simp [World.setCell]
    omega

theorem load_lit {w : World} {g : Nat} {s : Nat → Nat} (r0 : w.cell? ⟨g, 0, none⟩ = some (.int .u64 (s 0))) (r1 : w.cell? ⟨g, 1, none⟩ = some (.int .u64 (s 1))) (r2 : w.cell? ⟨g, 2, none⟩ = some (.int .u64 (s 2))) (r3 : w.cell? ⟨g, 3, none⟩ = some (.int .u64 (s 3))) (r4 : w.cell? ⟨g, 4, none⟩ = some (.int .u64 (s 4))) (r5 : w.cell? ⟨g, 5, none⟩ = some (.int .u64 (s 5))) : (loadCellsFrom ⟨g, 0, none⟩ 0 6 #[]).run Tryz.prog w = .ok (setA s) w := by
  have := run_loadCells_list (P := Tryz.prog) w ⟨g, 0, none⟩ (setA s).toList (fun j v hv => by
    have hadd : (⟨g, 0, none⟩ : Addr).add j = ⟨g, j, none⟩ := by unfold Addr.add; split <;> simp_all
    rw [hadd]
    match j, hv with
    | 0, hv => rw [r0]; exact hv
    | 1, hv => rw [r1]; exact hv
    | 2, hv => rw [r2]; exact hv
    | 3, hv => rw [r3]; exact hv
    | 4, hv => rw [r4]; exact hv
    | 5, hv => rw [r5]; exact hv
    | j + 6, hv => simp [setA] at hv)
  rw [show (setA s).toList.length = 6 from rfl] at this
  simpa [loadCells] using this

set_option maxRecDepth 100000 in
set_option maxHeartbeats 4000000 in
theorem putC (B : Nat) (w0 : World) (q5 q6 sb n sc i : Nat) (f : Nat → Nat → Nat) (s : Nat → Nat) (ch : Bool) (w : World) (h : LeSt B w0 w q5 q6 sb n sc f ch) (hi : i < n) (hn : n ≤ 400) (hs : SetOK s) (hf : SetOK (f i)) :
    Calls Tryz.prog 65 (#[.int .i64 (i : Int), .agg (setA s)] ++ #[.pointer (some ⟨q5, 0, none⟩), .pointer (some ⟨q6, 0, none⟩)]) w fun e w' => e = .returned (.tuple #[]) ∧ (if sameS (fun o => s o ||| f i o) (f i) = true then LeSt B w0 w' q5 q6 sb n sc f ch else LeSt B w0 w' q5 q6 sb n sc (Sol.putF f i (fun o => s o ||| f i o)) true) := by
  have HI : Hid ((Tryz.prog.info? 65).map (·.size) = some 6) := Tryz.infoSet
  have hmx : Tryz.prog.follows .mixedOrders = true := by kernel_rfl
  obtain ⟨T, hT⟩ : ∃ T : Nat → Nat, T = fun o => s o ||| f i o := ⟨_, rfl⟩
  obtain ⟨F, hF⟩ : ∃ F : Nat → Nat, F = f i := ⟨_, rfl⟩
  rw [← hT]
  have HEQ : Hid (F = f i ∧ T = fun o => s o ||| F o) := ⟨hF, by rw [hF]; exact hT⟩
  have HSF : Hid (sameS T (f i) = sameS T F) := by rw [hF]; rfl
  rw [HSF.out]
  obtain ⟨wz, hwz⟩ : ∃ wz, wz = w.alloc (.cells (setA s) 65) := ⟨_, rfl⟩
  have HWZ : Hid (wz = w.alloc (.cells (setA s) 65)) := hwz
  have hbz : Below w.heap.size w wz := by rw [hwz]; exact (Below.refl _ _).alloc (Nat.le_refl _) _
  have HZ : Hid (LeSt B w0 wz q5 q6 sb n sc f ch) := h.later hbz
  have HS0 : Hid (SetAt wz w.heap.size s) := by show wz.heap[_]? = _; rw [hwz]; exact heap_at_alloc _ _ _ rfl
  have HPL : Hid (∀ W : World, Calls Tryz.prog 66 #[.agg (setA s), .agg (setA F)] W fun e w' => e = .returned (.agg (setA T)) ∧ Below W.heap.size W w') := by
    intro W
    rw [HEQ.out.2]
    exact plusC s F W hs (by rw [hF]; exact hf)
  have HOL : Hid (sb < w.heap.size ∧ q5 < w.heap.size ∧ q6 < w.heap.size) := ⟨h.lt, lt_of_block h.box, lt_of_block h.chg⟩
  have i1 : (i : Int) < (n : Int) := by omega
  have HIN : Hid (i < n ∧ n ≤ 400) := ⟨hi, hn⟩
  have HFI : Hid (F = f i) := hF
  clear h hs hf hT hF hwz hbz hi hn
  show Calls Tryz.prog 65 #[.int .i64 (i : Int), .agg (setA s), .pointer (some ⟨q5, 0, none⟩), .pointer (some ⟨q6, 0, none⟩)] w _
  go_enter Tryz.func65, Tryz.ntmps65
  go_upto_region 1 with fail
  rw [← HWZ.out]
  clear HWZ
  have cb : wz.cell? ⟨q5, 0, none⟩ = some (.slice (some ⟨sb, 0, none⟩) n sc) := cell_blk HZ.out.box
  have g0 : wz.cell? ⟨sb, i * 6, none⟩ = some (.int .u64 (F 0 : Int)) := by rw [HFI.out]; exact HZ.out.row i HIN.out.1 0 (by omega)
  have g1 : wz.cell? ⟨sb, i * 6 + 1, none⟩ = some (.int .u64 (F 1 : Int)) := by rw [HFI.out]; exact HZ.out.row i HIN.out.1 1 (by omega)
  have g2 : wz.cell? ⟨sb, i * 6 + 2, none⟩ = some (.int .u64 (F 2 : Int)) := by rw [HFI.out]; exact HZ.out.row i HIN.out.1 2 (by omega)
  have g3 : wz.cell? ⟨sb, i * 6 + 3, none⟩ = some (.int .u64 (F 3 : Int)) := by rw [HFI.out]; exact HZ.out.row i HIN.out.1 3 (by omega)
  have g4 : wz.cell? ⟨sb, i * 6 + 4, none⟩ = some (.int .u64 (F 4 : Int)) := by rw [HFI.out]; exact HZ.out.row i HIN.out.1 4 (by omega)
  have g5 : wz.cell? ⟨sb, i * 6 + 5, none⟩ = some (.int .u64 (F 5 : Int)) := by rw [HFI.out]; exact HZ.out.row i HIN.out.1 5 (by omega)
  have HA : Hid (setA F = #[.int .u64 (F 0), .int .u64 (F 1), .int .u64 (F 2), .int .u64 (F 3), .int .u64 (F 4), .int .u64 (F 5)]) := rfl
  refine wp_region_held_drew (S := (fun W' => W'.cell? ⟨q5, 0, none⟩ = some (.slice (some ⟨sb, 0, none⟩) n sc) ∧ W'.cell? ⟨sb, i * 6, none⟩ = some (.int .u64 (F 0 : Int)) ∧ W'.cell? ⟨sb, i * 6 + 1, none⟩ = some (.int .u64 (F 1 : Int)) ∧ W'.cell? ⟨sb, i * 6 + 2, none⟩ = some (.int .u64 (F 2 : Int)) ∧ W'.cell? ⟨sb, i * 6 + 3, none⟩ = some (.int .u64 (F 3 : Int)) ∧ W'.cell? ⟨sb, i * 6 + 4, none⟩ = some (.int .u64 (F 4 : Int)) ∧ W'.cell? ⟨sb, i * 6 + 5, none⟩ = some (.int .u64 (F 5 : Int)))) hmx ⟨cb, g0, g1, g2, g3, g4, g5⟩ ?_
  intro hHeld
  refine wpAnyH_take (i := 1) (v := .slice (some ⟨sb, 0, none⟩) n sc) rfl (by kernel_rfl) (by kernel_rfl) (by kernel_rfl) (fun _ _ _ h => h) (Or.inl ⟨by rfl, fun W' hSw => by dsimp only at hSw; go_simp⟩) hHeld ?_
  simp only [Act.put]
  refine wpAnyH_take (i := 2) (v := .int .i64 (i : Int)) rfl (by kernel_rfl) (by kernel_rfl) (by kernel_rfl) (fun _ _ _ h => h) (Or.inl ⟨by rfl, fun W' hSw => by dsimp only at hSw; go_simp⟩) hHeld ?_
  simp only [Act.put]
  refine wpAnyH_take (i := 3) (v := .pointer (some ⟨sb, i * 6, none⟩)) rfl (by kernel_rfl) (by kernel_rfl) (by kernel_rfl) (fun _ _ _ h => h) (Or.inl ⟨by rfl, fun W' hSw => by dsimp only at hSw; go_simp⟩) hHeld ?_
  simp only [Act.put]
  refine wpAnyH_take (i := 4) (v := .agg #[.int .u64 (F 0), .int .u64 (F 1), .int .u64 (F 2), .int .u64 (F 3), .int .u64 (F 4), .int .u64 (F 5)]) rfl (by kernel_rfl) (by kernel_rfl) (by kernel_rfl) (fun _ _ _ h => h) (Or.inl ⟨by rfl, fun W' hSw => by dsimp only at hSw; go_simp⟩) hHeld ?_
  simp only [Act.put]
  refine wpAnyH_ready (rs := [0]) (by kernel_rfl) (by simp) ?_
  refine AllReadyH.cons rfl (fun K hK => ?_) AllReadyH.nil
  refine stepH rfl (wp_load_row 65 (.tmp 5) rfl w.heap.size rfl 65 (setA s) (0, 0) _ HS0.out Tryz.underlying65 rfl (by rw [HI.out, setA_size]) ?_)
  refine hK.out _ _ ⟨cb, g0, g1, g2, g3, g4, g5⟩ ?_
  clear hK K
  intro hHeld
  simp only [Act.put]
  refine wpAnyH_ready (rs := [5]) (by kernel_rfl) (by simp) ?_
  refine AllReadyH.cons rfl (fun K hK => ?_) AllReadyH.nil
  go_simp
  rw [← HA.out]
  refine (HPL.out wz.drew).mono ?_
  rintro e w4 ⟨rfl, hb4⟩
  have HZ4 : Hid (LeSt B w0 w4 q5 q6 sb n sc f ch) := (HZ.out.later ⟨rfl, rfl, rfl, Nat.le_refl _, fun _ _ => rfl⟩ : LeSt B w0 wz.drew q5 q6 sb n sc f ch).later hb4
  have HS4 : Hid (SetAt w4 w.heap.size s) := SetAt.later (w := wz.drew) HS0.out hb4
  clear hb4 cb g0 g1 g2 g3 g4 g5 hHeld HZ HS0 HPL
  have cb : w4.cell? ⟨q5, 0, none⟩ = some (.slice (some ⟨sb, 0, none⟩) n sc) := cell_blk HZ4.out.box
  have g0 : w4.cell? ⟨sb, i * 6, none⟩ = some (.int .u64 (F 0 : Int)) := by rw [HFI.out]; exact HZ4.out.row i HIN.out.1 0 (by omega)
  have g1 : w4.cell? ⟨sb, i * 6 + 1, none⟩ = some (.int .u64 (F 1 : Int)) := by rw [HFI.out]; exact HZ4.out.row i HIN.out.1 1 (by omega)
  have g2 : w4.cell? ⟨sb, i * 6 + 2, none⟩ = some (.int .u64 (F 2 : Int)) := by rw [HFI.out]; exact HZ4.out.row i HIN.out.1 2 (by omega)
  have g3 : w4.cell? ⟨sb, i * 6 + 3, none⟩ = some (.int .u64 (F 3 : Int)) := by rw [HFI.out]; exact HZ4.out.row i HIN.out.1 3 (by omega)
  have g4 : w4.cell? ⟨sb, i * 6 + 4, none⟩ = some (.int .u64 (F 4 : Int)) := by rw [HFI.out]; exact HZ4.out.row i HIN.out.1 4 (by omega)
  have g5 : w4.cell? ⟨sb, i * 6 + 5, none⟩ = some (.int .u64 (F 5 : Int)) := by rw [HFI.out]; exact HZ4.out.row i HIN.out.1 5 (by omega)
  refine hK.out _ _ ⟨cb, g0, g1, g2, g3, g4, g5⟩ ?_
  clear hK K
  intro hHeld
  refine wpAnyH_ready (rs := [6]) (by kernel_rfl) (by simp) ?_
  refine AllReadyH.cons rfl (fun K hK => ?_) AllReadyH.nil
  refine stepH rfl (wp_store_row 65 (.tmp 5) (.tmp 11) rfl w.heap.size (setA T) rfl rfl 65 (setA s) HS4.out (by rw [HI.out, setA_size]) (by rw [setA_size, setA_size]) (setA_one _) ?_)
  have HS5 : Hid (SetAt (w4.setRow w.heap.size (setA T)) w.heap.size T) := setRow_heap _ _ _ _ _ _ HS4.out
  have HZ5 : Hid (LeSt B w0 (w4.setRow w.heap.size (setA T)) q5 q6 sb n sc f ch) := by
    obtain ⟨o1, o2, o3⟩ := HOL.out
    refine ⟨below_setRow' HZ4.out.bel (by have := HZ4.out.lo; omega) _, (setRow_other _ _ _ _ (by omega)).trans HZ4.out.box, (setRow_other _ _ _ _ (by omega)).trans HZ4.out.chg, fun k hk j hj => (cell_setRow_other _ _ _ _ (by show sb ≠ _; omega)).trans (HZ4.out.row k hk j hj), fun x => ?_, HZ4.out.lo, by rw [setRow_size]; exact HZ4.out.lt⟩
    have := HZ4.out.fre x
    simp only [World.frozen?] at this ⊢
    rw [setRow_other _ _ _ _ (by omega)]
    exact this
  obtain ⟨w5, hw5⟩ : ∃ w5, w5 = w4.setRow w.heap.size (setA T) := ⟨_, rfl⟩
  rw [← hw5] at HS5 HZ5 ⊢
  clear hw5 cb g0 g1 g2 g3 g4 g5 hHeld HZ4 HS4
  have cb : w5.cell? ⟨q5, 0, none⟩ = some (.slice (some ⟨sb, 0, none⟩) n sc) := cell_blk HZ5.out.box
  have g0 : w5.cell? ⟨sb, i * 6, none⟩ = some (.int .u64 (F 0 : Int)) := by rw [HFI.out]; exact HZ5.out.row i HIN.out.1 0 (by omega)
  have g1 : w5.cell? ⟨sb, i * 6 + 1, none⟩ = some (.int .u64 (F 1 : Int)) := by rw [HFI.out]; exact HZ5.out.row i HIN.out.1 1 (by omega)
  have g2 : w5.cell? ⟨sb, i * 6 + 2, none⟩ = some (.int .u64 (F 2 : Int)) := by rw [HFI.out]; exact HZ5.out.row i HIN.out.1 2 (by omega)
  have g3 : w5.cell? ⟨sb, i * 6 + 3, none⟩ = some (.int .u64 (F 3 : Int)) := by rw [HFI.out]; exact HZ5.out.row i HIN.out.1 3 (by omega)
  have g4 : w5.cell? ⟨sb, i * 6 + 4, none⟩ = some (.int .u64 (F 4 : Int)) := by rw [HFI.out]; exact HZ5.out.row i HIN.out.1 4 (by omega)
  have g5 : w5.cell? ⟨sb, i * 6 + 5, none⟩ = some (.int .u64 (F 5 : Int)) := by rw [HFI.out]; exact HZ5.out.row i HIN.out.1 5 (by omega)
  refine hK.out _ _ ⟨cb, g0, g1, g2, g3, g4, g5⟩ ?_
  clear hK K
  intro hHeld
  refine wpAnyH_done (by kernel_rfl) ?_ _
  simp only [Act.put]
  go_upto_region 2 with fail
  clear hHeld
  have r0 : w5.cell? ⟨w.heap.size, 0, none⟩ = some (.int .u64 (T 0 : Int)) := HS5.out.cell (by omega)
  have r1 : w5.cell? ⟨w.heap.size, 1, none⟩ = some (.int .u64 (T 1 : Int)) := HS5.out.cell (by omega)
  have r2 : w5.cell? ⟨w.heap.size, 2, none⟩ = some (.int .u64 (T 2 : Int)) := HS5.out.cell (by omega)
  have r3 : w5.cell? ⟨w.heap.size, 3, none⟩ = some (.int .u64 (T 3 : Int)) := HS5.out.cell (by omega)
  have r4 : w5.cell? ⟨w.heap.size, 4, none⟩ = some (.int .u64 (T 4 : Int)) := HS5.out.cell (by omega)
  have r5 : w5.cell? ⟨w.heap.size, 5, none⟩ = some (.int .u64 (T 5 : Int)) := HS5.out.cell (by omega)
  have hne : ∀ W : World, (Op.equalIn 10000 65 (.agg #[.int .u64 (T 0), .int .u64 (T 1), .int .u64 (T 2), .int .u64 (T 3), .int .u64 (T 4), .int .u64 (T 5)]) (.agg #[.int .u64 (F 0), .int .u64 (F 1), .int .u64 (F 2), .int .u64 (F 3), .int .u64 (F 4), .int .u64 (F 5)])).run Tryz.prog W = .ok (sameS T F) W := fun W => equal_set T F W
  have hgd : ∀ (x y : Operand) (W : World), (eqGuard .neq 65 x y (.agg #[.int .u64 (T 0), .int .u64 (T 1), .int .u64 (T 2), .int .u64 (T 3), .int .u64 (T 4), .int .u64 (T 5)]) (.agg #[.int .u64 (F 0), .int .u64 (F 1), .int .u64 (F 2), .int .u64 (F 3), .int .u64 (F 4), .int .u64 (F 5)])).run Tryz.prog W = .ok () W := fun x y W => guard_set x y _ _ W
  go_quiet (fail)
  clear hne hgd
  obtain ⟨w6, hw6⟩ : ∃ w6, w6 = w5.drewN nq := ⟨_, rfl⟩
  have HZ6 : Hid (LeSt B w0 w6 q5 q6 sb n sc f ch) := by rw [hw6]; exact HZ5.out.later ⟨rfl, rfl, rfl, Nat.le_refl _, fun _ _ => rfl⟩
  have hce : ∀ p, w6.cell? p = w5.cell? p := fun p => by rw [hw6]; rfl
  rw [← hw6]
  rw [← hce] at cb r0 r1 r2 r3 r4 r5
  clear hw6 hce g0 g1 g2 g3 g4 g5 HZ5 HS5
  cases hsm : sameS T F with
  | true =>
    rw [Bool.not_true]
    go_wp2_with fail
    go_end0
    refine ⟨rfl, ?_⟩
    exact HZ6.out
  | false =>
    have HST7 : Hid (LeSt B w0 ((w6.setCells sb (i * 6) (setA T).toList).setCell ⟨q6, 0, none⟩ (.bool true)) q5 q6 sb n sc (Sol.putF f i T) true) := HZ6.out.put HIN.out.1 T
    have g0 : w6.cell? ⟨sb, i * 6, none⟩ = some (.int .u64 (f i 0 : Int)) := HZ6.out.row i HIN.out.1 0 (by omega)
    have g1 : w6.cell? ⟨sb, i * 6 + 1, none⟩ = some (.int .u64 (f i 1 : Int)) := HZ6.out.row i HIN.out.1 1 (by omega)
    have g2 : w6.cell? ⟨sb, i * 6 + 2, none⟩ = some (.int .u64 (f i 2 : Int)) := HZ6.out.row i HIN.out.1 2 (by omega)
    have g3 : w6.cell? ⟨sb, i * 6 + 3, none⟩ = some (.int .u64 (f i 3 : Int)) := HZ6.out.row i HIN.out.1 3 (by omega)
    have g4 : w6.cell? ⟨sb, i * 6 + 4, none⟩ = some (.int .u64 (f i 4 : Int)) := HZ6.out.row i HIN.out.1 4 (by omega)
    have g5 : w6.cell? ⟨sb, i * 6 + 5, none⟩ = some (.int .u64 (f i 5 : Int)) := HZ6.out.row i HIN.out.1 5 (by omega)
    have z0 : w6.frozen? ⟨sb, i * 6, none⟩ = false := HZ6.out.fre _
    have z1 : w6.frozen? ⟨sb, i * 6 + 1, none⟩ = false := HZ6.out.fre _
    have z2 : w6.frozen? ⟨sb, i * 6 + 2, none⟩ = false := HZ6.out.fre _
    have z3 : w6.frozen? ⟨sb, i * 6 + 3, none⟩ = false := HZ6.out.fre _
    have z4 : w6.frozen? ⟨sb, i * 6 + 4, none⟩ = false := HZ6.out.fre _
    have z5 : w6.frozen? ⟨sb, i * 6 + 5, none⟩ = false := HZ6.out.fre _
    have c7 : w6.cell? ⟨q6, 0, none⟩ = some (.bool ch) := cell_blk HZ6.out.chg
    have f7 : w6.frozen? ⟨q6, 0, none⟩ = false := by simp [World.frozen?, HZ6.out.chg]
    have l6 := HZ6.out.lt
    have n6 : sb ≠ q6 := by have := HZ6.out.lo; omega
    have n7 : q6 ≠ sb := by have := HZ6.out.lo; omega
    rw [Bool.not_false]
    go_wp2_with fail
    all_goals go_end0
    all_goals exact ⟨rfl, HST7.out⟩
end Go.Proofs.YtnligpcfkmdjeaaGreatDoor
