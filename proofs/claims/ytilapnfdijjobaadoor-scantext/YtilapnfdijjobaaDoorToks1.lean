/- The document's own reader: the closure that tells a fault, and what its loop holds. -/
import Derived.Test.YtilapnfdijjobaaDoorIsName
import Derived.Test.YtilapnfdijjobaaDoorScan
import Derived.Lib.SmallJoins
namespace Go.Proofs.YtilapnfdijjobaaDoor
open Go.RowKit

set_option maxHeartbeats 1000000 in
theorem fail_any (c a : Int) (ba : Nat) (w : World) (hA : w.heap[ba]? = some (.cells #[.int .i64 a] 3 (0, 0))) :
    Calls Tryd.prog 28 #[.int .i64 c, .pointer (some ⟨ba, 0, none⟩)] w fun e w' => e = .returned (.tuple #[.slice none 0 0, .agg #[.int .i64 c, .int .i64 a]]) ∧ Below w.heap.size w w' := by
  have cA := cell_of_one hA
  have lA := lt_of_block hA
  clear hA
  go_enter Tryd.func28, Tryd.ntmps28
  go_wp2
  go_region
  all_goals (try go_wp2)
  all_goals exact bodyPost_ret (v := .tuple #[.slice none 0 0, .agg #[.int .i64 c, .int .i64 a]]) (by simp [results, Tryd.results28, go_sem]) rfl ⟨rfl, ((Below.refl _ _).alloc (Nat.le_refl _) _).drew⟩

structure LoopT (s : ByteArray) (w wr : World) (v : Value) (a f : Nat) (acc : List Lex.Tok) : Prop where
  own : wr.ownsRow (w.heap.size + 2) 31 3 v acc.length (Lex.cellsOf acc)
  res : wr.heap[w.heap.size]? = some (.cells #[.int .i64 0, .int .i64 0] 25 (0, 0))
  plc : wr.heap[w.heap.size + 1]? = some (.cells #[.int .i64 (a : Int)] 3 (0, 0))
  bel : Below w.heap.size w wr
  big : w.heap.size + 2 ≤ wr.heap.size
  len : acc.length ≤ 600
  plt : a ≤ s.size
  all : Lex.scanAll s.data.toList = Lex.scanF s.data.toList (f + 1) a acc
  fuel : s.size < a + (f + 1)

theorem loopT_start (s : ByteArray) (w : World) (H : Lex.scanAll s.data.toList = Lex.scanF s.data.toList (s.size + 1) 0 []) :
    LoopT s w ((w.alloc (.cells #[.int .i64 0, .int .i64 0] 25)).alloc (.cells #[.int .i64 0] 3)) (.slice none 0 0) 0 s.size [] :=
  ⟨World.ownsRow_nil _ _ _ _, heap_past_alloc (heap_at_alloc _ _ _ rfl), heap_at_alloc _ _ _ (by simp), ((Below.refl _ _).alloc (Nat.le_refl _) _).alloc (by simp) _, by simp, by simp, by simp, H, by omega⟩
theorem loopT_move {s : ByteArray} {w wr : World} {v : Value} {a b f : Nat} {acc : List Lex.Tok} (h : LoopT s w wr v a f acc) (hb : b ≤ s.size) (hab : a ≤ b)
    (hg : a + Lex.gapF false (s.data.toList.drop a) = b + Lex.gapF false (s.data.toList.drop b)) : LoopT s w (wr.setCell ⟨w.heap.size + 1, 0, none⟩ (.int .i64 (b : Int))) v b f acc :=
  ⟨ownsRow_setCell_below h.own (by show w.heap.size + 1 < _; omega) _, heap_past_set h.res (by show w.heap.size ≠ w.heap.size + 1; omega), one_setCell h.plc, h.bel.setCell (by show w.heap.size ≤ w.heap.size + 1; omega) _, by have := h.big; simpa [World.setCell] using this, h.len, hb, h.all.trans (Lex.scan_same hg), by have := h.fuel; omega⟩
theorem loopT_own {s : ByteArray} {w wr w1 : World} {v : Value} {a f : Nat} {acc : List Lex.Tok} (h : LoopT s w wr v a f acc) (hb : Below wr.heap.size wr w1) : w1.ownsRow (w.heap.size + 2) 31 3 v acc.length (Lex.cellsOf acc) := by
  refine h.own.kept (row := none) ⟨hb.os, hb.tape, hb.output, hb.size, fun k hk _ => hb.block k hk⟩ ?_
  cases hv : v.ownBlock
  · exact .inl rfl
  · exact .inr (by simp)
theorem loopT_next {s t : ByteArray} {w wr w1 w2 : World} {v v' : Value} {o2 : Obj} {a f : Nat} {k : Int} {acc : List Lex.Tok} (h : LoopT s w wr v a (f + 1) acc) (hb : Below wr.heap.size wr w1)
    (hk : k ≠ 0) (ht : 0 < t.size) (hle : a + t.size ≤ s.size) (hst : Lex.stepF s.data.toList a = (k, a, t.data.toList, 0, a + t.size)) (hf : ¬ acc.length = 600)
    (hown : w2.ownsRow (w.heap.size + 2) 31 3 v' (acc.length + 1) (Lex.cellsOf acc ++ [.int .i64 k, .int .i64 (a : Int), .string t])) (hgr : (w1.alloc o2).grownBy w2 v.ownBlock) :
    LoopT s w (w2.setCell ⟨w.heap.size + 1, 0, none⟩ (.int .i64 ((a + t.size : Nat) : Int))) v' (a + t.size) f (acc ++ [(k, a, t.data.toList)]) := by
  have hbg := h.big
  have hz : (w1.alloc o2).heap.size = w1.heap.size + 1 := by simp
  have h1 := hb.size
  have h2 := hgr.size
  have low : ∀ b x, b < w.heap.size + 2 → wr.heap[b]? = some x → w2.heap[b]? = some x := fun b x hlt hx => by
    rw [hgr.block b (by omega) ?_]
    · exact heap_past_alloc ((hb.block b (by omega)).trans hx)
    · intro he
      have := (h.own.lt _ he.symm).1
      omega
  refine ⟨?_, heap_past_set (low _ _ (by omega) h.res) (by show w.heap.size ≠ w.heap.size + 1; omega), one_setCell (low _ _ (by omega) h.plc), ?_, by simp [World.setCell]; omega, by have := h.len; simp; omega, hle, h.all.trans (Lex.scan_on hst hk hf), by have := h.fuel; omega⟩
  · rw [Lex.cellsOf_snoc]
    have := ownsRow_setCell_below (a := ⟨w.heap.size + 1, 0, none⟩) hown (by show w.heap.size + 1 < _; omega) (.int .i64 ((a + t.size : Nat) : Int))
    simpa using this
  · exact (((h.bel.trans (hb.mono (by omega))).alloc (by omega) _).grown hgr (by omega) (fun k he => by have := (h.own.lt _ he).1; omega)).setCell (by show w.heap.size ≤ w.heap.size + 1; omega) _
end Go.Proofs.YtilapnfdijjobaaDoor
