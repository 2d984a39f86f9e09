/- The document's own reader: the closure that tells a fault, and what its loop holds. The longest sign at a text's head, found by going through all of them. Contract of the document's own reader, Tokens. -/
import Derived.Test.YtcdeicfegfedfaaGreatDoorGaName
import Derived.Test.YtcdeicfegfedfaaGreatDoorGaScan
import Derived.Lib.SmallJoins
import Derived.Test.YtcdeicfegfedfaaGreatDoorGaLex
import Derived.Lib.Strings
import Derived.Lib.IndexMore
import Derived.Test.YtcdeicfegfedfaaGreatDoorGaShA
import Derived.Deep.RegionWith
import Derived.Deep.RegionHeld3
import Derived.Deep.DeepCutAuto
import Derived.Deep.CutBlock
import Derived.Outline
namespace Go.Proofs.YtcdeicfegfedfaaGreatDoor
open Go.RowKit

set_option maxHeartbeats 1000000 in
theorem fail_any (c a : Int) (ba : Nat) (w : World) (hA : w.heap[ba]? = some (.cells #[.int .i64 a] 3 (0, 0))) :
    Calls Tryz.prog 63 #[.int .i64 c, .pointer (some ⟨ba, 0, none⟩)] w fun e w' => e = .returned (.tuple #[.slice none 0 0, .agg #[.int .i64 c, .int .i64 a]]) ∧ Below w.heap.size w w' := by
  have cA := cell_of_one hA
  have lA := lt_of_block hA
  clear hA
  go_enter Tryz.func63, Tryz.ntmps63
  go_wp2
  go_region
  all_goals (try go_wp2)
  all_goals exact bodyPost_ret (v := .tuple #[.slice none 0 0, .agg #[.int .i64 c, .int .i64 a]]) (by simp [results, Tryz.results63, go_sem]) rfl ⟨rfl, ((Below.refl _ _).alloc (Nat.le_refl _) _).drew⟩

structure LoopT (s : ByteArray) (w wr : World) (v : Value) (a f : Nat) (acc : List Lex.Tok) : Prop where
  own : wr.ownsRow (w.heap.size + 2) 80 3 v acc.length (Lex.cellsOf acc)
  res : wr.heap[w.heap.size]? = some (.cells #[.int .i64 0, .int .i64 0] 29 (0, 0))
  plc : wr.heap[w.heap.size + 1]? = some (.cells #[.int .i64 (a : Int)] 3 (0, 0))
  bel : Below w.heap.size w wr
  big : w.heap.size + 2 ≤ wr.heap.size
  len : acc.length ≤ 600
  plt : a ≤ s.size
  all : Lex.scanAll s.data.toList = Lex.scanF s.data.toList (f + 1) a acc
  fuel : s.size < a + (f + 1)

theorem loopT_start (s : ByteArray) (w : World) (H : Lex.scanAll s.data.toList = Lex.scanF s.data.toList (s.size + 1) 0 []) :
    LoopT s w ((w.alloc (.cells #[.int .i64 0, .int .i64 0] 29)).alloc (.cells #[.int .i64 0] 3)) (.slice none 0 0) 0 s.size [] :=
  ⟨World.ownsRow_nil _ _ _ _, heap_past_alloc (heap_at_alloc _ _ _ rfl), heap_at_alloc _ _ _ (by simp), ((Below.refl _ _).alloc (Nat.le_refl _) _).alloc (by simp) _, by simp, by simp, by simp, H, by omega⟩
theorem loopT_move {s : ByteArray} {w wr : World} {v : Value} {a b f : Nat} {acc : List Lex.Tok} (h : LoopT s w wr v a f acc) (hb : b ≤ s.size) (hab : a ≤ b)
    (hg : a + Lex.gapF false (s.data.toList.drop a) = b + Lex.gapF false (s.data.toList.drop b)) : LoopT s w (wr.setCell ⟨w.heap.size + 1, 0, none⟩ (.int .i64 (b : Int))) v b f acc :=
  ⟨ownsRow_setCell_below h.own (by show w.heap.size + 1 < _; omega) _, heap_past_set h.res (by show w.heap.size ≠ w.heap.size + 1; omega), one_setCell h.plc, h.bel.setCell (by show w.heap.size ≤ w.heap.size + 1; omega) _, by have := h.big; simpa [World.setCell] using this, h.len, hb, h.all.trans (Lex.scan_same hg), by have := h.fuel; omega⟩
theorem loopT_own {s : ByteArray} {w wr w1 : World} {v : Value} {a f : Nat} {acc : List Lex.Tok} (h : LoopT s w wr v a f acc) (hb : Below wr.heap.size wr w1) : w1.ownsRow (w.heap.size + 2) 80 3 v acc.length (Lex.cellsOf acc) := by
  refine h.own.kept (row := none) ⟨hb.os, hb.tape, hb.output, hb.size, fun k hk _ => hb.block k hk⟩ ?_
  cases hv : v.ownBlock
  · exact .inl rfl
  · exact .inr (by simp)
theorem loopT_next {s t : ByteArray} {w wr w1 w2 : World} {v v' : Value} {o2 : Obj} {a f : Nat} {k : Int} {acc : List Lex.Tok} (h : LoopT s w wr v a (f + 1) acc) (hb : Below wr.heap.size wr w1)
    (hk : k ≠ 0) (ht : 0 < t.size) (hle : a + t.size ≤ s.size) (hst : Lex.stepF s.data.toList a = (k, a, t.data.toList, 0, a + t.size)) (hf : ¬ acc.length = 600)
    (hown : w2.ownsRow (w.heap.size + 2) 80 3 v' (acc.length + 1) (Lex.cellsOf acc ++ [.int .i64 k, .int .i64 (a : Int), .string t])) (hgr : (w1.alloc o2).grownBy w2 v.ownBlock) :
    LoopT s w (w2.setCell ⟨w.heap.size + 1, 0, none⟩ (.int .i64 ((a + t.size : Nat) : Int))) v' (a + t.size) f (acc ++ [(k, a, t.data.toList)]) := by
  have hbg := h.big
  have hz : (w1.alloc o2).heap.size = w1.heap.size + 1 := by simp
  have h1 := hb.size
  have h2 := hgr.size
  have low : ∀ b x, b < w.heap.size + 2 → wr.heap[b]? = some x → w2.heap[b]? = some x := fun b x hlt hx => by
    rw [hgr.block b (by omega) ?_]
    · exact heap_past_alloc ((hb.block b (by omega)).trans hx)
    · intro he
      have := (h.own.lt _ he.symm).1
      omega
  refine ⟨?_, heap_past_set (low _ _ (by omega) h.res) (by show w.heap.size ≠ w.heap.size + 1; omega), one_setCell (low _ _ (by omega) h.plc), ?_, by simp [World.setCell]; omega, by have := h.len; simp; omega, hle, h.all.trans (Lex.scan_on hst hk hf), by have := h.fuel; omega⟩
  · rw [Lex.cellsOf_snoc]
    have := ownsRow_setCell_below (a := ⟨w.heap.size + 1, 0, none⟩) hown (by show w.heap.size + 1 < _; omega) (.int .i64 ((a + t.size : Nat) : Int))
    simpa using this
  · exact (((h.bel.trans (hb.mono (by omega))).alloc (by omega) _).grown hgr (by omega) (fun k he => by have := (h.own.lt _ he).1; omega)).setCell (by show w.heap.size ≤ w.heap.size + 1; omega) _
end Go.Proofs.YtcdeicfegfedfaaGreatDoor

namespace Go.Proofs.YtcdeicfegfedfaaGreatDoor
namespace Lex
def twoL : List (List UInt8) := [[38, 38], [124, 124], [61, 61], [33, 61], [60, 61], [62, 61]]
def oneL : List (List UInt8) := [[43], [45], [42], [47], [37], [60], [62], [33], [40], [41], [123], [125], [44], [59], [58], [61]]
def signsL : List (List UInt8) := twoL ++ oneL
def pick (l t w : List UInt8) : List UInt8 := if Lib.hasPrefix l w = true ∧ t.length < w.length then w else t
def bestUp (l : List UInt8) (k : Nat) : List UInt8 := (signsL.take k).foldl (pick l) []
theorem best_succ (l : List UInt8) {k : Nat} (hk : k < signsL.length) : bestUp l (k + 1) = pick l (bestUp l k) signsL[k] := by
  unfold bestUp
  rw [List.take_succ_eq_append_getElem hk, List.foldl_append]
  rfl
theorem pref_take {l w : List UInt8} (h : Lib.hasPrefix l w = true) : w = l.take w.length := by
  have : w <+: l := by simpa [Lib.hasPrefix] using h
  exact (List.prefix_iff_eq_take.1 this)
theorem pick_all (l : List UInt8) (n : Nat) (W : List (List UInt8)) (hW : ∀ w ∈ W, w.length = n) (t : List UInt8) : W.foldl (pick l) t = if t.length < n ∧ W.any (fun w => Lib.hasPrefix l w) = true then l.take n else t := by
  induction W generalizing t with
  | nil => simp
  | cons w r ih =>
    have hw := hW w (by simp)
    have hr : ∀ w ∈ r, w.length = n := fun x hx => hW x (by simp [hx])
    rw [List.foldl_cons]
    by_cases hp : Lib.hasPrefix l w = true
    · have ht := pref_take hp
      rw [hw] at ht
      by_cases hn : t.length < n
      · have e : pick l t w = w := by unfold pick; rw [if_pos ⟨hp, by rw [hw]; exact hn⟩]
        rw [e, ih hr, if_neg (by rw [hw]; omega), if_pos ⟨hn, by simp [hp]⟩]
        exact ht
      · have e : pick l t w = t := by unfold pick; rw [if_neg (by rw [hw]; exact fun h => hn h.2)]
        rw [e, ih hr, if_neg (fun h => hn h.1), if_neg (fun h => hn h.1)]
    · have hpf : Lib.hasPrefix l w = false := by simpa using hp
      have e : pick l t w = t := by unfold pick; rw [if_neg (fun h => hp h.1)]
      rw [e, ih hr]
      simp [hpf]
theorem two_any (l : List UInt8) : twoL.any (fun w => Lib.hasPrefix l w) = twoB (l.take 2) := by
  have e : ∀ p q : UInt8, Lib.hasPrefix l [p, q] = (l.take 2 == [p, q]) := by
    intro p q
    match l with
    | [] => simp [Lib.hasPrefix]
    | [x] =>
      simp only [Lib.hasPrefix, List.isPrefixOf_cons_cons, List.isPrefixOf_cons_nil, Bool.and_false]
      symm
      rw [beq_eq_false_iff_ne]
      simp
    | x :: y :: r =>
      rw [Bool.eq_iff_iff]
      simp only [Lib.hasPrefix, List.isPrefixOf_cons_cons, List.isPrefixOf_nil_left, Bool.and_true, Bool.and_eq_true, beq_iff_eq, List.take_succ_cons, List.take_zero, List.cons.injEq, and_true]
      constructor
      · rintro ⟨rfl, rfl⟩; exact ⟨rfl, rfl⟩
      · rintro ⟨rfl, rfl⟩; exact ⟨rfl, rfl⟩
  simp only [twoL, List.any_cons, List.any_nil, e, twoB, Bool.or_false, Bool.or_assoc]
theorem one_any (l : List UInt8) : oneL.any (fun w => Lib.hasPrefix l w) = oneB (c0 l) := by
  match l with
  | [] => decide
  | x :: r =>
    have e : ∀ p : UInt8, Lib.hasPrefix (x :: r) [p] = ((x.toNat : Int) == (p.toNat : Int)) := by
      intro p
      rw [Bool.eq_iff_iff]
      simp only [Lib.hasPrefix, List.isPrefixOf_cons_cons, List.isPrefixOf_nil_left, Bool.and_true, beq_iff_eq, Int.natCast_inj, UInt8.toNat_inj]
      exact eq_comm
    simp only [oneL, List.any_cons, List.any_nil, e, Bool.or_false]
    show _ = oneB (x.toNat : Int)
    simp [oneB, Bool.or_assoc]
theorem best_all (l : List UInt8) : bestUp l 22 = signF l := by
  have h : bestUp l 22 = oneL.foldl (pick l) (twoL.foldl (pick l) []) := by
    unfold bestUp
    rw [show signsL.take 22 = signsL from rfl, signsL, List.foldl_append]
  have t2 : twoL.foldl (pick l) [] = if twoB (l.take 2) = true then l.take 2 else [] := by
    rw [pick_all l 2 twoL (by decide), two_any]
    cases twoB (l.take 2) <;> simp
  rw [h, t2]
  unfold signF
  cases h2 : twoB (l.take 2) with
  | true =>
    have hl : ¬ (l.take 2).length < 1 := by
      intro hlt
      have : l.take 2 = [] := List.length_eq_zero_iff.1 (by omega)
      rw [this] at h2; cases h2
    rw [if_pos rfl, pick_all l 1 oneL (by decide), if_neg (fun h => hl h.1)]
    simp
  | false =>
    rw [if_neg (by simp), pick_all l 1 oneL (by decide), one_any]
    cases oneB (c0 l) <;> simp
theorem best_len (l : List UInt8) (k : Nat) : (bestUp l k).length ≤ 2 := by
  have h : ∀ (W : List (List UInt8)) (t : List UInt8), (∀ w ∈ W, w.length ≤ 2) → t.length ≤ 2 → (W.foldl (pick l) t).length ≤ 2 := by
    intro W
    induction W with
    | nil => intro t _ ht; exact ht
    | cons w r ih =>
      intro t hW ht
      rw [List.foldl_cons]
      refine ih _ (fun x hx => hW x (by simp [hx])) ?_
      unfold pick
      split
      · exact hW w (by simp)
      · exact ht
  refine h _ _ (fun w hw => ?_) (by simp)
  have h2 : ∀ w ∈ signsL, w.length ≤ 2 := by decide
  exact h2 w (List.mem_of_mem_take hw)
end Lex
end Go.Proofs.YtcdeicfegfedfaaGreatDoor

namespace Go.Proofs.YtcdeicfegfedfaaGreatDoor
open Go.RowKit

theorem Lex.runLen_drop' {p : Int → Bool} {l : List UInt8} {k : Nat} (h : k < l.length) : Lex.runLen p (l.drop k) = if p ((l[k].toNat : Nat) : Int) then Lex.runLen p (l.drop (k + 1)) + 1 else 0 := Lex.runLen_drop p l k h
def TokDone (s : ByteArray) (wr wc : World) (a : Nat) : Prop := ∃ (k : Int) (t : ByteArray), Below wr.heap.size wr wc ∧ wc.heap[wr.heap.size]? = some (.cells #[.int .i64 k, .int .i64 (a : Int), .string t] 80 (0, 0)) ∧ Lex.stepF s.data.toList a = (k, a, t.data.toList, 0, a + t.size) ∧ k ≠ 0 ∧ 0 < t.size ∧ a + t.size ≤ s.size
theorem three_one (w : World) (a b c : Value) (e : TypeId) : ∀ j u, [a, b, c][j]? = some u → (w.alloc (.cells #[a, b, c] e)).cell? ((⟨w.heap.size, 0, none⟩ : Addr).add j) = some u := by
  intro j u hj
  have e0 : (w.alloc (.cells #[a, b, c] e)).cell? ⟨w.heap.size, j, none⟩ = (#[a, b, c] : Array Value)[j]? := World.cell?_alloc_at _ _ _ _ rfl
  have e1 : (⟨w.heap.size, 0, none⟩ : Addr).add j = ⟨w.heap.size, j, none⟩ := by simp [Addr.add]; intro h; exact h.symm
  rw [e1, e0]; simpa using hj
theorem size_setCell (w : World) (a : Addr) (v : Value) : (w.setCell a v).heap.size = w.heap.size := by simp [World.setCell]
theorem tok_set0 {w : World} {b : Nat} {x0 x1 x2 v : Value} {t : TypeId} (h : w.heap[b]? = some (.cells #[x0, x1, x2] t (0, 0))) : (w.setCell ⟨b, 0, none⟩ v).heap[b]? = some (.cells #[v, x1, x2] t (0, 0)) := by
  have hb := lt_of_block h
  simp [World.setCell, Array.getElem?_modify, h]
theorem tok_set2 {w : World} {b : Nat} {x0 x1 x2 v : Value} {t : TypeId} (h : w.heap[b]? = some (.cells #[x0, x1, x2] t (0, 0))) : (w.setCell ⟨b, 2, none⟩ v).heap[b]? = some (.cells #[x0, x1, v] t (0, 0)) := by
  have hb := lt_of_block h
  simp [World.setCell, Array.getElem?_modify, h]
theorem cut_text (s : ByteArray) (a n : Nat) (h : n ≤ s.size - a) : ((s.extract a s.size).extract 0 (s.size - a - (s.size - a - n))).data.toList = (s.data.toList.drop a).take n := by
  rw [show s.size - a - (s.size - a - n) = n from by omega, Lib.extract_data, Lex.tail_list]; simp
theorem word_len {n : List UInt8} (h : Lex.wordB n = true) : n.length ≤ 12 := by
  have : ∀ n ∈ Lex.wordsL, n.length ≤ 12 := by decide
  exact this n (Lex.word_mem h)
theorem done_of {s T : ByteArray} {wr wc : World} {a : Nat} {k : Int} (hB : Below wr.heap.size wr wc) (hT : wc.heap[wr.heap.size]? = some (.cells #[.int .i64 k, .int .i64 (a : Int), .string T] 80 (0, 0)))
    (hq : a + Lex.gapF false (s.data.toList.drop a) = a) (hne : a ≠ s.data.toList.length) (hd : s.data.toList.drop a ≠ []) (hf : Lex.firstF (s.data.toList.drop a) = (k, T.data.toList, 0)) (ha : a ≤ s.size) : TokDone s wr wc a := by
  have hok := Lex.first_ok hf hd
  have h4 := hok.2.2.2
  rw [List.length_drop, Lex.len_of, Lex.len_of] at h4
  have h2 := hok.2.1
  rw [Lex.len_of] at h2
  exact ⟨k, T, hB, hT, (Lex.step_tok hq hne hf).trans (by rw [Lex.len_of]), hok.1, h2, by omega⟩
structure Blank (wr w2 : World) (a : Nat) : Prop where
  tok : w2.heap[wr.heap.size]? = some (.cells #[.int .i64 0, .int .i64 (a : Int), .string ⟨#[]⟩] 80 (0, 0))
  bel : Below wr.heap.size wr w2
  c0 : w2.cell? ⟨wr.heap.size, 0, none⟩ = some (.int .i64 0)
  c2 : w2.cell? ⟨wr.heap.size, 2, none⟩ = some (.string ⟨#[]⟩)
  f0 : w2.frozen? ⟨wr.heap.size, 0, none⟩ = false
  f2 : w2.frozen? ⟨wr.heap.size, 2, none⟩ = false
theorem blank_of {wr w2 : World} {a : Nat} (hT : w2.heap[wr.heap.size]? = some (.cells #[.int .i64 0, .int .i64 (a : Int), .string ⟨#[]⟩] 80 (0, 0))) (hB : Below wr.heap.size wr w2) : Blank wr w2 a :=
  ⟨hT, hB, by simp [World.cell?, hT], by simp [World.cell?, hT], by simp [World.frozen?, hT], by simp [World.frozen?, hT]⟩
theorem after_trim {wr w2 : World} {a : Nat} (hb : Below (wr.alloc (.cells #[.int .i64 0, .int .i64 (a : Int), .string ⟨#[]⟩] 80)).drew.heap.size (wr.alloc (.cells #[.int .i64 0, .int .i64 (a : Int), .string ⟨#[]⟩] 80)).drew w2) : Blank wr w2 a := by
  have hz : (wr.alloc (.cells #[.int .i64 0, .int .i64 (a : Int), .string ⟨#[]⟩] 80)).drew.heap.size = wr.heap.size + 1 := by show (wr.alloc _).heap.size = _; simp
  refine blank_of ((hb.block _ (by omega)).trans (heap_at_alloc _ _ _ rfl)) ?_
  exact ((Below.refl _ _).alloc (Nat.le_refl _) _).drew.trans (hb.mono (by omega))
def NumDone (s : ByteArray) (wr wx : World) (a n : Nat) : Prop := ∃ T : ByteArray, Below wr.heap.size wr wx ∧ wx.heap[wr.heap.size]? = some (.cells #[.int .i64 2, .int .i64 (a : Int), .string T] 80 (0, 0)) ∧ T.data.toList = (s.data.toList.drop a).take n
theorem num_done {s : ByteArray} {wr w2 : World} {a n : Nat} (h : Blank wr w2 a) (hn : n ≤ s.size - a) : NumDone s wr ((w2.setCell ⟨wr.heap.size, 0, none⟩ (.int .i64 2)).setCell ⟨wr.heap.size, 2, none⟩ (.string ((s.extract a s.size).extract 0 n))) a n :=
  ⟨_, (h.bel.setCell (p := ⟨wr.heap.size, 0, none⟩) (Nat.le_refl _) _).setCell (p := ⟨wr.heap.size, 2, none⟩) (Nat.le_refl _) _, tok_set2 (tok_set0 h.tok), by
    have := cut_text s a n hn
    rwa [show s.size - a - (s.size - a - n) = n from by omega] at this⟩
def signsT : List UInt8 := [38, 38, 32, 124, 124, 32, 61, 61, 32, 33, 61, 32, 60, 61, 32, 62, 61, 32, 43, 32, 45, 32, 42, 32, 47, 32, 37, 32, 60, 32, 62, 32, 33, 32, 40, 32, 41, 32, 123, 32, 125, 32, 44, 32, 59, 32, 58, 32, 61]
theorem signs_fields : Lib.fields signsT = Lex.signsL := by decide
theorem signs_ascii : ∀ (j : Nat) b, (⟨signsT.toArray⟩ : ByteArray).data.toList[j]? = some b → b.toNat < 128 := by
  have h : ∀ b ∈ signsT, b.toNat < 128 := by decide
  intro j b hb
  exact h b (List.mem_of_getElem? hb)
/- While the signs are gone through: the token, the row of the signs. -/
structure SignSt (wr wx : World) (a : Nat) (l : List UInt8) (k : Nat) : Prop where
  bel : Below wr.heap.size wr wx
  tok : wx.heap[wr.heap.size]? = some (.cells #[.int .i64 4, .int .i64 (a : Int), .string ⟨(Lex.bestUp l k).toArray⟩] 80 (0, 0))
  row : wx.heap[wr.heap.size + 1]? = some (.cells (Lex.signsL.map fun l => Value.string ⟨l.toArray⟩).toArray 9 (0, 0))
theorem sign_start (wr : World) (a : Nat) (l : List UInt8) : SignSt wr ((wr.alloc (.cells #[.int .i64 4, .int .i64 (a : Int), .string ⟨#[]⟩] 80)).alloc (.cells (Lex.signsL.map fun l => Value.string ⟨l.toArray⟩).toArray 9)) a l 0 :=
  ⟨((Below.refl _ _).alloc (Nat.le_refl _) _).alloc (by simp) _, heap_past_alloc (heap_at_alloc _ _ _ rfl), heap_at_alloc _ _ _ (by simp)⟩
theorem trimL_both (s : ByteArray) (a n : Nat) (w : World) (_ha : a ≤ s.size) (h : Hid (Lex.runLen Lex.nameB (s.data.toList.drop a) = n)) :
    Calls Tryz.prog 66 #[.string (s.extract a s.size), .string ⟨Lex.bothT.toArray⟩] w fun e w' => ∃ t : ByteArray, e = .returned (.string t) ∧ t.size = s.size - a - n ∧ Below w.heap.size w w' := by
  refine (Tryz.strings_TrimLeft_set (s.extract a s.size) ⟨Lex.bothT.toArray⟩ w (by decide) both_ascii).mono ?_
  rintro e w' ⟨rfl, hb⟩
  refine ⟨_, rfl, ?_, hb⟩
  rw [Lex.tail_list, show (⟨Lex.bothT.toArray⟩ : ByteArray).data.toList = Lex.bothT from rfl, Lex.trim_run Lex.nameB _ Lex.both_has, h.out]
  show ((s.data.toList.drop a).drop n).length = _
  rw [List.length_drop, List.length_drop, Lex.len_of]
theorem figs_ascii : ∀ (j : Nat) b, (⟨Lex.figuresT.toArray⟩ : ByteArray).data.toList[j]? = some b → b.toNat < 128 := by
  have h : ∀ b ∈ Lex.figuresT, b.toNat < 128 := by decide
  intro j b hb
  exact h b (List.mem_of_getElem? hb)
theorem trimL_figs (s : ByteArray) (a n : Nat) (w : World) (_ha : a ≤ s.size) (h : Hid (Lex.runLen Lex.digitB (s.data.toList.drop a) = n)) :
    Calls Tryz.prog 66 #[.string (s.extract a s.size), .string ⟨Lex.figuresT.toArray⟩] w fun e w' => ∃ t : ByteArray, e = .returned (.string t) ∧ t.size = s.size - a - n ∧ Below w.heap.size w w' := by
  refine (Tryz.strings_TrimLeft_set (s.extract a s.size) ⟨Lex.figuresT.toArray⟩ w (by decide) figs_ascii).mono ?_
  rintro e w' ⟨rfl, hb⟩
  refine ⟨_, rfl, ?_, hb⟩
  rw [Lex.tail_list, show (⟨Lex.figuresT.toArray⟩ : ByteArray).data.toList = Lex.figuresT from rfl, Lex.trim_run Lex.digitB _ Lex.figures_has, h.out]
  show ((s.data.toList.drop a).drop n).length = _
  rw [List.length_drop, List.length_drop, Lex.len_of]
theorem contains_blanks (c : UInt8) (w : World) (b : Bool) (h : Hid (Lex.blankB (c.toNat : Int) = b)) :
    Calls Tryz.prog 64 #[.string ⟨#[32, 9, 10]⟩, .string ⟨#[c]⟩] w fun e w' => e = .returned (.bool b) ∧ w' = w := by
  have := Tryz.strings_Contains_one ⟨#[32, 9, 10]⟩ c w
  rw [show (⟨#[32, 9, 10]⟩ : ByteArray).data.toList = [32, 9, 10] from rfl, Lex.blank_in, h.out] at this
  exact this
theorem contains_letters (c : UInt8) (w : World) (b : Bool) (h : Hid (Lex.alphaB (c.toNat : Int) = b)) :
    Calls Tryz.prog 64 #[.string ⟨Lex.lettersT.toArray⟩, .string ⟨#[c]⟩] w fun e w' => e = .returned (.bool b) ∧ w' = w := by
  have := Tryz.strings_Contains_one ⟨Lex.lettersT.toArray⟩ c w
  rw [show (⟨Lex.lettersT.toArray⟩ : ByteArray).data.toList = Lex.lettersT from rfl, Lex.alpha_in, h.out] at this
  exact this
theorem index_feed (s : ByteArray) (a : Nat) (k : Int) (w : World) (h : Hid (Lib.indexByte (s.data.toList.drop a) 10 = k)) :
    Calls Tryz.prog 65 #[.string (s.extract a s.size), .int .u8 10] w fun e w' => e = .returned (.int .i64 k) ∧ w' = w := by
  have := Tryz.strings_IndexByte (s.extract a s.size) 10 w
  rw [Lex.tail_list, show (10 : Int).toNat.toUInt8 = 10 from rfl, h.out] at this
  exact this

set_option maxHeartbeats 4000000 in
set_option maxRecDepth 100000 in
theorem tokens_any (s : ByteArray) (m : Int) (w : World) (hsz : s.size ≤ 140737488351232) (hm : w.cell? ⟨3, 0, none⟩ = some (.int .i64 m)) (htab : Lib.TabIs Tryz.prog w "strings.asciiSpace" .u8 Lib.asciiSpaceTab) :
    Calls Tryz.prog 36 #[.string s] w fun e w' => ∃ (v : Value) (l : List Lex.Tok) (c : Int) (q : Nat), e = .returned (.tuple #[v, .agg #[.int .i64 c, .int .i64 (q : Int)]]) ∧ Lex.scanAll s.data.toList = (l, c, q) ∧ w'.ownsRow w.heap.size 80 3 v l.length (Lex.cellsOf l) ∧ Below w.heap.size w w' := by
  by_cases hbig : 4000 < s.size
  · have H : Hid (Lex.scanAll s.data.toList = ([], 2, 0)) := Lex.scan_many (by rw [Lex.len_of]; exact hbig)
    go_enter Tryz.func36, Tryz.ntmps36
    go_wp2
    exact bodyPost_ret (v := .tuple #[.slice none 0 0, .agg #[.int .i64 2, .int .i64 0]]) (by simp [results, Tryz.results36, go_sem]) rfl ⟨_, [], 2, 0, rfl, H.out, World.ownsRow_nil _ _ _ _, (Below.refl _ _).alloc (Nat.le_refl _) _⟩
  · have HB : Hid (Lex.scanAll s.data.toList = Lex.scanF s.data.toList (s.size + 1) 0 []) := by
      have := Lex.scan_begin (l := s.data.toList) (by rw [Lex.len_of]; exact hbig)
      rwa [Lex.len_of] at this
    have hs : s.size ≤ 4000 := by omega
    have HTAB : Hid (Lib.TabIs Tryz.prog w "strings.asciiSpace" .u8 Lib.asciiSpaceTab) := htab
    have lM := World.block_lt_of_cell? w _ hm
    clear htab hsz
    go_enter Tryz.func36, Tryz.ntmps36
    go_wp2
    go_loopw [4] (fun v wr => ∃ a f acc, LoopT s w wr v a f acc) (fun _ wr => s.size - Lex.placeOf wr (w.heap.size + 1))
    case atStart => exact ⟨0, s.size, [], loopT_start s w HB.out⟩
    case round =>
      obtain ⟨a, f0, acc, HL0⟩ := hrel
      have HL : Hid (LoopT s w wr u4 a f0 acc) := HL0
      have hplt := HL0.plt
      have hbg := HL0.big
      obtain ⟨ao, cap, hv⟩ := slice_of HL0.own
      subst hv
      have cA := cell_of_one HL0.plc
      have fA := free_of_one HL0.plc
      have r0 : wr.cell? ⟨w.heap.size, 0, none⟩ = some (.int .i64 0) := by simp [World.cell?, HL0.res]
      have r1 : wr.cell? ⟨w.heap.size, 1, none⟩ = some (.int .i64 0) := by simp [World.cell?, HL0.res]
      have z0 : wr.frozen? ⟨w.heap.size, 0, none⟩ = false := by simp [World.frozen?, HL0.res]
      have z1 : wr.frozen? ⟨w.heap.size, 1, none⟩ = false := by simp [World.frozen?, HL0.res]
      clear HL0 HB
      by_cases hlt : a < s.size
      · obtain ⟨c, hc⟩ : ∃ c, c = s[a] := ⟨_, rfl⟩
        have HC : Hid (c = s[a]) := hc
        have HE : Hid (s.extract a (a + 1) = ⟨#[c]⟩) := by show _ = _; rw [hc]; exact one_byte s a hlt
        clear hc
        have hsl : ∀ wx : World, (Instr.slice 9 (.string s) (some (.int .i64 (a : Int))) (some (.int .i64 ((a : Int) + 1))) none).run Tryz.prog wx = .ok (.string ⟨#[c]⟩) wx := by
          intro wx
          rw [run_slice_string (P := Tryz.prog) wx 9 s .i64 .i64 (a : Int) ((a : Int) + 1) Tryz.underlying9 (by omega) (by omega) (by omega), Int.toNat_natCast, show ((a : Int) + 1).toNat = a + 1 from by omega, HE.out]
        cases hbl : Lex.blankB ((c.toNat : Nat) : Int)
        · have HBL : Hid (Lex.blankB ((c.toNat : Nat) : Int) = false) := hbl
          clear hbl
          cases hh : (((c.toNat : Nat) : Int) == 35)
          · have HH : Hid ((((c.toNat : Nat) : Int) == 35) = false) := hh
            have hcs : (([c] : List UInt8) == [35]) = false := by
              have : c ≠ 35 := by intro e; rw [e] at hh; exact absurd hh (by decide)
              simpa using this
            have HG0 : Hid (Lex.gapF false (s.data.toList.drop a) = 0) := Lex.gap_stop s.data.toList a (by rw [Lex.len_of]; exact hlt) (by have := HBL.out; rw [HC.out] at this; exact this) (by rw [HC.out] at hh; exact hh)
            obtain ⟨f, hf⟩ : ∃ f, f0 = f + 1 := ⟨f0 - 1, by have := HL.out.fuel; omega⟩
            subst hf
            clear hh
            go_upto_block 2 with (go_at_call 64; refine (contains_blanks c _ false HBL).mono ?_; rintro e w1 ⟨rfl, hw1⟩; have hw' := hw1.symm; subst hw')
            go_cut [] (fun wc => TokDone s wr wc a)
            case first =>
              have hc0 : Lex.c0 (s.data.toList.drop a) = ((c.toNat : Nat) : Int) := by
                have hl : a < s.data.toList.length := by rw [Lex.len_of]; exact hlt
                rw [List.drop_eq_getElem_cons hl, HC.out]; rfl
              have hdn : s.data.toList.drop a ≠ [] := by
                intro e; have := congrArg List.length e; rw [List.length_drop, Lex.len_of] at this; simp at this; omega
              have HDN : Hid (s.data.toList.drop a ≠ []) := hdn
              have HC0 : Hid (Lex.c0 (s.data.toList.drop a) = ((c.toNat : Nat) : Int)) := hc0
              clear hc0 hdn
              cases hal : Lex.alphaB ((c.toNat : Nat) : Int)
              · have HAL : Hid (Lex.alphaB ((c.toNat : Nat) : Int) = false) := hal
                have HQ : Hid (a + Lex.gapF false (s.data.toList.drop a) = a) := by show _ = _; rw [HG0.out]; rfl
                have HNE : Hid (a ≠ s.data.toList.length) := by show _ ≠ _; rw [Lex.len_of]; omega
                cases hdg : Lex.digitB ((c.toNat : Nat) : Int)
                · have HDG : Hid (Lex.digitB ((c.toNat : Nat) : Int) = false) := hdg
                  clear hal hdg
                  go_wp2_with fail
                  refine (contains_letters c _ false HAL).mono ?_
                  rintro e w1 ⟨rfl, hw1⟩
                  have hw' := hw1.symm
                  subst hw'
                  go_wp2_with fail
                  refine (contains_figs c _ false HDG).mono ?_
                  rintro e w1 ⟨rfl, hw1⟩
                  have hw' := hw1.symm
                  subst hw'
                  have HB4 : Hid (Below wr.heap.size wr (wr.alloc (.cells #[.int .i64 4, .int .i64 (a : Int), .string ⟨#[]⟩] 80))) := (Below.refl _ _).alloc (Nat.le_refl _) _
                  have HTB : Hid (Lib.TabIs Tryz.prog (wr.alloc (.cells #[.int .i64 4, .int .i64 (a : Int), .string ⟨#[]⟩] 80)) "strings.asciiSpace" .u8 Lib.asciiSpaceTab) := Joins.tab_stays (g := 1) (by kernel_rfl) HTAB.out (HL.out.bel.trans (HB4.out.mono (by omega))) (Nat.le_refl _)
                  clear hsl
                  go_wp2_with fail
                  refine (Tryz.strings_Fields ⟨signsT.toArray⟩ _ (by decide) signs_ascii HTB.out).mono ?_
                  rintro e w2 ⟨rfl, hw2⟩
                  rw [show (⟨signsT.toArray⟩ : ByteArray).data.toList = signsT from rfl, signs_fields] at hw2 ⊢
                  rw [show Lex.signsL.length = 22 from rfl]
                  have HS0 : Hid (SignSt wr w2 a (s.data.toList.drop a) 0) := by
                    show SignSt _ _ _ _ _
                    rw [hw2]
                    exact sign_start wr a (s.data.toList.drop a)
                  have hsz2 : (wr.alloc (.cells #[.int .i64 4, .int .i64 (a : Int), .string ⟨#[]⟩] 80)).heap.size = wr.heap.size + 1 := by simp
                  rw [hsz2]
                  clear hw2 HTB HB4 hsz2 cA fA r0 r1 z0 z1
                  go_wp2
                  obtain ⟨wq, hq⟩ : ∃ wq, wq = wr := ⟨wr, rfl⟩
                  subst hq
                  go_loopw [48] (fun i wx => ∃ k : Nat, k ≤ 22 ∧ i = .int .i64 k ∧ Hid (SignSt wq wx a (s.data.toList.drop a) k)) (fun i _ => 22 - (intOf i).toNat)
                  case atStart => exact ⟨0, by omega, rfl, HS0⟩
                  case round =>
                    clear HS0
                    obtain ⟨k, hk, rfl, HS⟩ := hrel
                    obtain ⟨T, hT⟩ : ∃ T : ByteArray, T = ⟨(Lex.bestUp (s.data.toList.drop a) k).toArray⟩ := ⟨_, rfl⟩
                    have HT : Hid (T = ⟨(Lex.bestUp (s.data.toList.drop a) k).toArray⟩) := hT
                    have hTx : wr.heap[wq.heap.size]? = some (.cells #[.int .i64 4, .int .i64 (a : Int), .string T] 80 (0, 0)) := by rw [hT]; exact HS.out.tok
                    have hTl : T.data.toList = Lex.bestUp (s.data.toList.drop a) k := by rw [hT]
                    have HTX : Hid (wr.heap[wq.heap.size]? = some (.cells #[.int .i64 4, .int .i64 (a : Int), .string T] 80 (0, 0))) := hTx
                    have x0 : wr.cell? ⟨wq.heap.size, 0, none⟩ = some (.int .i64 4) := by simp [World.cell?, hTx]
                    have x2 : wr.cell? ⟨wq.heap.size, 2, none⟩ = some (.string T) := by simp [World.cell?, hTx]
                    have y2 : wr.frozen? ⟨wq.heap.size, 2, none⟩ = false := by simp [World.frozen?, hTx]
                    have lT := lt_of_block hTx
                    have HTL : Hid (T.data.toList = Lex.bestUp (s.data.toList.drop a) k) := hTl
                    clear hT hTx hTl
                    by_cases hlt2 : k < 22
                    · have hk22 : k < Lex.signsL.length := hlt2
                      have hd22 : decide ((k : Int) < 22) = true := by simp; omega
                      obtain ⟨W, hW⟩ : ∃ W : ByteArray, W = ⟨Lex.signsL[k].toArray⟩ := ⟨_, rfl⟩
                      have hWl : W.data.toList = Lex.signsL[k] := by rw [hW]
                      have f0 : wr.cell? ⟨wq.heap.size + 1, k, none⟩ = some (.string W) := by
                        simp [World.cell?, HS.out.row]
                        rw [List.getElem?_eq_getElem hk22, hW]; exact ⟨_, rfl, rfl⟩
                      have hWs : W.size ≤ 2 := by
                        have h2 : ∀ w ∈ Lex.signsL, w.length ≤ 2 := by decide
                        rw [← Lex.len_of, hWl]; exact h2 _ (List.getElem_mem hk22)
                      have hTs : T.size ≤ 2 := by
                        rw [← Lex.len_of, HTL.out]; exact Lex.best_len _ _
                      have HST : Hid (Lex.bestUp (s.data.toList.drop a) (k + 1) = Lex.pick (s.data.toList.drop a) T.data.toList W.data.toList) := by show _ = _; rw [Lex.best_succ _ hk22, HTL.out, hWl]
                      have HRW : Hid (wr.heap[wq.heap.size + 1]? = some (.cells (Lex.signsL.map fun l => Value.string ⟨l.toArray⟩).toArray 9 (0, 0))) := HS.out.row
                      have HBS : Hid (Below wq.heap.size wq wr) := HS.out.bel
                      obtain ⟨pv, hpv⟩ : ∃ pv, Lib.hasPrefix (s.data.toList.drop a) W.data.toList = pv := ⟨_, rfl⟩
                      have HPV : Hid (Lib.hasPrefix (s.data.toList.drop a) W.data.toList = pv) := hpv
                      have HHP : Hid (Calls Tryz.prog 69 #[.string (s.extract a s.size), .string W] wr fun e w' => e = .returned (.bool pv) ∧ w' = wr) := by
                        have h := Tryz.strings_HasPrefix (s.extract a s.size) W wr
                        rw [Lex.tail_list, hpv] at h
                        exact h
                      clear hW hWl hpv HS HTL hk22
                      cases pv with
                      | false =>
                        have HNX : Hid (SignSt wq wr a (s.data.toList.drop a) (k + 1)) := by
                          refine ⟨HBS.out, ?_, HRW.out⟩
                          rw [HST.out]
                          have e : Lex.pick (s.data.toList.drop a) T.data.toList W.data.toList = T.data.toList := by unfold Lex.pick; rw [if_neg (by rw [HPV.out]; simp)]
                          rw [e]; exact HTX.out
                        go_wp2_with fail
                        refine HHP.out.mono ?_
                        rintro e w5 ⟨rfl, hw5⟩
                        have hw' := hw5.symm
                        subst hw'
                        go_wp2
                        go_roundw
                        case rel => exact ⟨k + 1, by omega, by go_num, HNX⟩
                        case measure => simp [intOf]; omega
                      | true =>
                        by_cases hgt : T.size < W.size
                        · have dgt : decide ((T.size : Int) < (W.size : Int)) = true := by simp; omega
                          have HNX : Hid (SignSt wq (wr.setCell ⟨wq.heap.size, 2, none⟩ (.string W)) a (s.data.toList.drop a) (k + 1)) := by
                            refine ⟨HBS.out.setCell (p := ⟨wq.heap.size, 2, none⟩) (Nat.le_refl _) _, ?_, heap_past_set HRW.out (by simp)⟩
                            rw [HST.out]
                            have e : Lex.pick (s.data.toList.drop a) T.data.toList W.data.toList = W.data.toList := by unfold Lex.pick; rw [if_pos ⟨HPV.out, by rw [Lex.len_of, Lex.len_of]; exact hgt⟩]
                            rw [e]; exact tok_set2 HTX.out
                          go_wp2_with fail
                          refine HHP.out.mono ?_
                          rintro e w5 ⟨rfl, hw5⟩
                          have hw' := hw5.symm
                          subst hw'
                          go_wp2
                          go_roundw
                          case rel => exact ⟨k + 1, by omega, by go_num, HNX⟩
                          case measure => simp [intOf]; omega
                        · have dgt : decide ((T.size : Int) < (W.size : Int)) = false := by simp; omega
                          have HNX : Hid (SignSt wq wr a (s.data.toList.drop a) (k + 1)) := by
                            refine ⟨HBS.out, ?_, HRW.out⟩
                            rw [HST.out]
                            have e : Lex.pick (s.data.toList.drop a) T.data.toList W.data.toList = T.data.toList := by unfold Lex.pick; rw [if_neg (by rw [Lex.len_of, Lex.len_of]; exact fun h => hgt h.2)]
                            rw [e]; exact HTX.out
                          go_wp2_with fail
                          refine HHP.out.mono ?_
                          rintro e w5 ⟨rfl, hw5⟩
                          have hw' := hw5.symm
                          subst hw'
                          go_wp2
                          go_roundw
                          case rel => exact ⟨k + 1, by omega, by go_num, HNX⟩
                          case measure => simp [intOf]; omega
                    · obtain rfl : k = 22 := by omega
                      have HTS : Hid (T.data.toList = Lex.signF (s.data.toList.drop a)) := by show _ = _; rw [HTL.out, Lex.best_all]
                      have HBS : Hid (Below wq.heap.size wq wr) := HS.out.bel
                      have hzx := HBS.out.size
                      clear HS HTL
                      by_cases hTe : T.data.toList = []
                      · have HFF : Hid (Lex.firstF (s.data.toList.drop a) = (0, [], 1)) := Lex.first_none (by rw [HC0.out]; exact HAL.out) (by rw [HC0.out]; exact HDG.out) (by rw [← HTS.out]; exact hTe)
                        have bT : T.toList.isEmpty = true := by rw [Lex.list_of, hTe]; rfl
                        have bT2 : (T.toList == []) = true := by rw [Lex.list_of, hTe]; rfl
                        have HPL : Hid (wr.heap[w.heap.size + 1]? = some (.cells #[.int .i64 (a : Int)] 3 (0, 0))) := (HBS.out.block _ (by omega)).trans HL.out.plc
                        have HRE : Hid (wr.heap[w.heap.size]? = some (.cells #[.int .i64 0, .int .i64 0] 29 (0, 0))) := (HBS.out.block _ (by omega)).trans HL.out.res
                        have HBW : Hid (Below w.heap.size w wr) := HL.out.bel.trans (HBS.out.mono (by omega))
                        clear hTe
                        go_wp2_with fail
                        refine (fail_any 1 a (w.heap.size + 1) _ HPL.out).mono ?_
                        rintro e w3 ⟨rfl, hb3⟩
                        have hz3 := hb3.size
                        have hR3 : w3.heap[w.heap.size]? = some (.cells #[.int .i64 0, .int .i64 0] 29 (0, 0)) := (hb3.block _ (by omega)).trans HRE.out
                        have r0' : w3.cell? ⟨w.heap.size, 0, none⟩ = some (.int .i64 0) := by simp [World.cell?, hR3]
                        have r1' : w3.cell? ⟨w.heap.size, 1, none⟩ = some (.int .i64 0) := by simp [World.cell?, hR3]
                        have z0' : w3.frozen? ⟨w.heap.size, 0, none⟩ = false := by simp [World.frozen?, hR3]
                        have z1' : w3.frozen? ⟨w.heap.size, 1, none⟩ = false := by simp [World.frozen?, hR3]
                        have HB3 : Hid (Below w.heap.size w w3) := HBW.out.trans (hb3.mono (by omega))
                        clear hR3 hb3
                        go_wp2
                        exact bodyPost_ret (v := .tuple #[.slice none 0 0, .agg #[.int .i64 1, .int .i64 (a : Int)]]) (by simp [results, Tryz.results36, go_sem, r0', r1']) rfl ⟨_, [], 1, a, rfl, HL.out.all.trans (Lex.scan_bad (Lex.step_bad HQ.out HNE.out HFF.out (by decide)) (by decide)), World.ownsRow_nil _ _ _ _, (HB3.out.setCell (Nat.le_refl _) _).setCell (Nat.le_refl _) _⟩
                      · have HFF : Hid (Lex.firstF (s.data.toList.drop a) = (4, T.data.toList, 0)) := by
                          show _ = _
                          rw [Lex.first_sign (by rw [HC0.out]; exact HAL.out) (by rw [HC0.out]; exact HDG.out) (by rw [← HTS.out]; exact hTe), HTS.out]
                        have bT : T.toList.isEmpty = false := by rw [Lex.list_of]; simpa using hTe
                        have bT2 : (T.toList == []) = false := by rw [Lex.list_of, beq_eq_false_iff_ne]; exact hTe
                        clear hTe
                        go_wp2_with fail
                        go_meet
                        exact done_of HBS.out HTX.out HQ.out HNE.out HDN.out HFF.out hplt
                · have HDG : Hid (Lex.digitB ((c.toNat : Nat) : Int) = true) := hdg
                  obtain ⟨n, hn⟩ : ∃ n, Lex.runLen Lex.digitB (s.data.toList.drop a) = n := ⟨_, rfl⟩
                  have HN : Hid (Lex.runLen Lex.digitB (s.data.toList.drop a) = n) := hn
                  have hnl : n ≤ s.size - a := by
                    rw [← hn]; have := Lex.runLen_le Lex.digitB (s.data.toList.drop a); rwa [List.length_drop, Lex.len_of] at this
                  have hn0 : 0 < n := by rw [← hn]; exact Lex.run_pos' Lex.digitB _ (by rw [HC0.out]; exact HDG.out) HDN.out
                  clear hal hn hdg
                  go_wp2_with fail
                  refine (contains_letters c _ false HAL).mono ?_
                  rintro e w1 ⟨rfl, hw1⟩
                  have hw' := hw1.symm
                  subst hw'
                  go_wp2_with fail
                  refine (contains_figs c _ true HDG).mono ?_
                  rintro e w1 ⟨rfl, hw1⟩
                  have hw' := hw1.symm
                  subst hw'
                  go_upto_region 33 with (fail)
                  go_cut [] (fun wx => NumDone s wr wx a n)
                  case first =>
                    clear hsl
                    go_region_held3 (fun _ => True) (trivial) (first | (go_at_call 66; refine (trimL_figs s a n _ hplt HN).mono ?_; rintro e w2 ⟨t', rfl, ht', hb2⟩; have hw1 : IntKind.i64.wrap (((s.size - a : Nat) : Int) - ((s.size - a - n : Nat) : Int)) = (n : Int) := (by rw [IntKind.wrap_i64]; omega); have hw2 : IntKind.i64.wrap (((s.size - a : Nat) : Int) - (t'.size : Int)) = (n : Int) := (by rw [IntKind.wrap_i64]; omega); have hw3 : IntKind.i64.wrap (((s.extract a s.size).size : Int) - (t'.size : Int)) = (n : Int) := (by rw [IntKind.wrap_i64, ByteArray.size_extract]; omega); have hi1 : (n : Int) ≤ ((s.size - a : Nat) : Int) := (by omega); have HX : Hid (Blank wr w2 a) := after_trim hb2; have x0 := HX.out.c0; have x2 := HX.out.c2; have y0 := HX.out.f0; have y2 := HX.out.f2; clear hb2))
                    all_goals (try go_wp2_with fail)
                    all_goals go_meet
                    all_goals exact num_done HX.out hnl
                  case rest =>
                    obtain ⟨T, hbx, hTx, hTL⟩ := hcut
                    have hTn : T.size = n := by rw [← Lex.len_of, hTL, List.length_take, List.length_drop, Lex.len_of]; omega
                    have hhd : T.data.toList.head? = some c := by
                      have hl : a < s.data.toList.length := by rw [Lex.len_of]; exact hlt
                      rw [hTL, List.drop_eq_getElem_cons hl]
                      obtain ⟨n', rfl⟩ : ∃ n', n = n' + 1 := ⟨n - 1, by omega⟩
                      rw [HC.out]; rfl
                    have x2 : wc.cell? ⟨wr.heap.size, 2, none⟩ = some (.string T) := by simp [World.cell?, hTx]
                    have lT := lt_of_block hTx
                    have HFI : Hid (Lex.firstF (s.data.toList.drop a) = Lex.digitsF T.data.toList) := by
                      show _ = _; rw [Lex.first_digit (by rw [HC0.out]; exact HAL.out) (by rw [HC0.out]; exact HDG.out), HN.out, hTL]
                    have HTX : Hid (wc.heap[wr.heap.size]? = some (.cells #[.int .i64 2, .int .i64 (a : Int), .string T] 80 (0, 0))) := hTx
                    have HBX : Hid (Below wr.heap.size wr wc) := hbx
                    have HHD : Hid (T.data.toList.head? = some c) := hhd
                    have hzx := hbx.size
                    clear hTL hhd hTx hbx hsl cA fA r0 r1 z0 z1
                    by_cases hbad : 9 < n ∨ (1 < n ∧ c = 48)
                    · have HFF : Hid (Lex.firstF (s.data.toList.drop a) = (0, [], 3)) := by
                        show _ = _
                        rw [HFI.out]; unfold Lex.digitsF
                        rw [if_pos (by rw [HHD.out, Lex.len_of, hTn]; rcases hbad with h | ⟨h, e⟩; exact .inl h; exact .inr ⟨h, by rw [e]⟩)]
                      have hPL : wc.heap[w.heap.size + 1]? = some (.cells #[.int .i64 (a : Int)] 3 (0, 0)) := (HBX.out.block _ (by omega)).trans HL.out.plc
                      have HPL : Hid (wc.heap[w.heap.size + 1]? = some (.cells #[.int .i64 (a : Int)] 3 (0, 0))) := hPL
                      have HRE : Hid (wc.heap[w.heap.size]? = some (.cells #[.int .i64 0, .int .i64 0] 29 (0, 0))) := (HBX.out.block _ (by omega)).trans HL.out.res
                      have HBW : Hid (Below w.heap.size w wc) := HL.out.bel.trans (HBX.out.mono (by omega))
                      clear hPL HFI HHD
                      by_cases h9 : 9 < n
                      · have d9 : decide ((9 : Int) < (T.size : Int)) = true := by rw [hTn]; simp; omega
                        have d9' : decide ((9 : Int) < (n : Int)) = true := by simp; omega
                        clear hbad
                        go_wp2_with fail
                        refine (fail_any 3 a (w.heap.size + 1) _ HPL.out).mono ?_
                        rintro e w3 ⟨rfl, hb3⟩
                        have hz3 := hb3.size
                        have hR3 : w3.heap[w.heap.size]? = some (.cells #[.int .i64 0, .int .i64 0] 29 (0, 0)) := (hb3.block _ (by omega)).trans HRE.out
                        have r0' : w3.cell? ⟨w.heap.size, 0, none⟩ = some (.int .i64 0) := by simp [World.cell?, hR3]
                        have r1' : w3.cell? ⟨w.heap.size, 1, none⟩ = some (.int .i64 0) := by simp [World.cell?, hR3]
                        have z0' : w3.frozen? ⟨w.heap.size, 0, none⟩ = false := by simp [World.frozen?, hR3]
                        have z1' : w3.frozen? ⟨w.heap.size, 1, none⟩ = false := by simp [World.frozen?, hR3]
                        have HB3 : Hid (Below w.heap.size w w3) := HBW.out.trans (hb3.mono (by omega))
                        clear hR3 hb3
                        go_wp2
                        exact bodyPost_ret (v := .tuple #[.slice none 0 0, .agg #[.int .i64 3, .int .i64 (a : Int)]]) (by simp [results, Tryz.results36, go_sem, r0', r1']) rfl ⟨_, [], 3, a, rfl, HL.out.all.trans (Lex.scan_bad (Lex.step_bad HQ.out HNE.out HFF.out (by decide)) (by decide)), World.ownsRow_nil _ _ _ _, (HB3.out.setCell (Nat.le_refl _) _).setCell (Nat.le_refl _) _⟩
                      · have hc48 : c = 48 := by rcases hbad with h | ⟨_, e⟩; exact absurd h h9; exact e
                        have h1n : 1 < n := by rcases hbad with h | ⟨h, _⟩; exact absurd h h9; exact h
                        have d9 : decide ((9 : Int) < (T.size : Int)) = false := by rw [hTn]; simp; omega
                        have d9' : decide ((9 : Int) < (n : Int)) = false := by simp; omega
                        have bc : (([c] : List UInt8) == [48]) = true := by rw [hc48]; rfl
                        have hTne : (T.toList == [48]) = false := by
                          rw [Lex.list_of, beq_eq_false_iff_ne]
                          intro e
                          have := congrArg List.length e
                          rw [Lex.len_of, hTn] at this
                          simp at this; omega
                        clear hbad hc48
                        go_wp2_with fail
                        refine (fail_any 3 a (w.heap.size + 1) _ HPL.out).mono ?_
                        rintro e w3 ⟨rfl, hb3⟩
                        have hz3 := hb3.size
                        have hR3 : w3.heap[w.heap.size]? = some (.cells #[.int .i64 0, .int .i64 0] 29 (0, 0)) := (hb3.block _ (by omega)).trans HRE.out
                        have r0' : w3.cell? ⟨w.heap.size, 0, none⟩ = some (.int .i64 0) := by simp [World.cell?, hR3]
                        have r1' : w3.cell? ⟨w.heap.size, 1, none⟩ = some (.int .i64 0) := by simp [World.cell?, hR3]
                        have z0' : w3.frozen? ⟨w.heap.size, 0, none⟩ = false := by simp [World.frozen?, hR3]
                        have z1' : w3.frozen? ⟨w.heap.size, 1, none⟩ = false := by simp [World.frozen?, hR3]
                        have HB3 : Hid (Below w.heap.size w w3) := HBW.out.trans (hb3.mono (by omega))
                        clear hR3 hb3
                        go_wp2
                        exact bodyPost_ret (v := .tuple #[.slice none 0 0, .agg #[.int .i64 3, .int .i64 (a : Int)]]) (by simp [results, Tryz.results36, go_sem, r0', r1']) rfl ⟨_, [], 3, a, rfl, HL.out.all.trans (Lex.scan_bad (Lex.step_bad HQ.out HNE.out HFF.out (by decide)) (by decide)), World.ownsRow_nil _ _ _ _, (HB3.out.setCell (Nat.le_refl _) _).setCell (Nat.le_refl _) _⟩
                    · have h9 : ¬ 9 < n := fun h => hbad (.inl h)
                      have HFF : Hid (Lex.firstF (s.data.toList.drop a) = (2, T.data.toList, 0)) := by
                        show _ = _
                        rw [HFI.out]; unfold Lex.digitsF
                        rw [if_neg]
                        rw [HHD.out, Lex.len_of, hTn]
                        rintro (h | ⟨h, e⟩)
                        · exact hbad (.inl h)
                        · exact hbad (.inr ⟨h, Option.some.inj e⟩)
                      have d9 : decide ((9 : Int) < (T.size : Int)) = false := by rw [hTn]; simp; omega
                      have d9' : decide ((9 : Int) < (n : Int)) = false := by simp; omega
                      by_cases hc48 : c = 48
                      · have h1n : n = 1 := by
                          by_cases h : 1 < n
                          · exact absurd (.inr ⟨h, hc48⟩) hbad
                          · omega
                        have bc : (([c] : List UInt8) == [48]) = true := by rw [hc48]; rfl
                        have hTeq : (T.toList == [48]) = true := by
                          rw [Lex.list_of]
                          have hlen : T.data.toList.length = 1 := by rw [Lex.len_of, hTn]; exact h1n
                          have hh := HHD.out
                          match hT : T.data.toList, hlen, hh with
                          | [q], _, hq =>
                            obtain rfl : q = c := by simpa using hq
                            rw [hc48]; rfl
                        clear hbad hc48 HFI HHD
                        go_wp2_with fail
                        go_meet
                        exact done_of HBX.out HTX.out HQ.out HNE.out HDN.out HFF.out hplt
                      · have bc : (([c] : List UInt8) == [48]) = false := by simpa using hc48
                        clear hbad hc48 HFI HHD
                        go_wp2_with fail
                        go_meet
                        exact done_of HBX.out HTX.out HQ.out HNE.out HDN.out HFF.out hplt
              · have HAL : Hid (Lex.alphaB ((c.toNat : Nat) : Int) = true) := hal
                obtain ⟨n, hn⟩ : ∃ n, Lex.runLen Lex.nameB (s.data.toList.drop a) = n := ⟨_, rfl⟩
                have HN : Hid (Lex.runLen Lex.nameB (s.data.toList.drop a) = n) := hn
                have hnl : n ≤ s.size - a := by
                  rw [← hn]; have := Lex.runLen_le Lex.nameB (s.data.toList.drop a); rwa [List.length_drop, Lex.len_of] at this
                clear hal hn
                go_wp2_with fail
                refine (contains_letters c _ true HAL).mono ?_
                rintro e w1 ⟨rfl, hw1⟩
                have hw' := hw1.symm
                subst hw'
                go_wp2_with fail
                refine (trimL_both s a n _ hplt HN).mono ?_
                rintro e w2 ⟨t', rfl, ht', hb2⟩
                have hz2 := hb2.size
                simp only [World.size_alloc] at hz2
                have hT2 : w2.heap[wr.heap.size]? = some (.cells #[.int .i64 0, .int .i64 (a : Int), .string ⟨#[]⟩] 80 (0, 0)) := (hb2.block _ (by simp)).trans (heap_at_alloc _ _ _ rfl)
                have x0 : w2.cell? ⟨wr.heap.size, 0, none⟩ = some (.int .i64 0) := by simp [World.cell?, hT2]
                have x1 : w2.cell? ⟨wr.heap.size, 1, none⟩ = some (.int .i64 (a : Int)) := by simp [World.cell?, hT2]
                have x2 : w2.cell? ⟨wr.heap.size, 2, none⟩ = some (.string ⟨#[]⟩) := by simp [World.cell?, hT2]
                have y0 : w2.frozen? ⟨wr.heap.size, 0, none⟩ = false := by simp [World.frozen?, hT2]
                have y2 : w2.frozen? ⟨wr.heap.size, 2, none⟩ = false := by simp [World.frozen?, hT2]
                have HT2 : Hid (w2.heap[wr.heap.size]? = some (.cells #[.int .i64 0, .int .i64 (a : Int), .string ⟨#[]⟩] 80 (0, 0))) := hT2
                have HB2 : Hid (Below wr.heap.size wr w2) := ((Below.refl _ _).alloc (Nat.le_refl _) _).trans (hb2.mono (by simp))
                have hHL := HL.out.bel
                have HBW : Hid (Below w.heap.size w w2) := HL.out.bel.trans (HB2.out.mono (by omega))
                clear hT2 hb2 hsl hHL
                go_wp2_with fail
                obtain ⟨T, hTe⟩ : ∃ T, T = (s.extract a s.size).extract 0 (s.size - a - (s.size - a - n)) := ⟨_, rfl⟩
                rw [← hTe]
                have hTL : T.data.toList = (s.data.toList.drop a).take n := by rw [hTe]; exact cut_text s a n hnl
                have hTn : T.size = n := by rw [← Lex.len_of, hTL, List.length_take, List.length_drop, Lex.len_of]; omega
                have HTL : Hid (T.data.toList = (s.data.toList.drop a).take n) := hTL
                have hn0 : 0 < n := by rw [← HN.out]; exact Lex.run_pos' Lex.nameB _ (by rw [HC0.out]; simp [Lex.nameB, HAL.out]) HDN.out
                have HFI : Hid (Lex.firstF (s.data.toList.drop a) = Lex.lettersF T.data.toList) := by
                  show _ = _; rw [Lex.first_alpha (by rw [HC0.out]; exact HAL.out), HN.out, HTL.out]
                have HQ : Hid (a + Lex.gapF false (s.data.toList.drop a) = a) := by show _ = _; rw [HG0.out]; rfl
                have HNE : Hid (a ≠ s.data.toList.length) := by show _ ≠ _; rw [Lex.len_of]; omega
                clear hTe hTL
                have hmW : ((w2.setCell ⟨wr.heap.size, 2, none⟩ (.string T)).setCell ⟨wr.heap.size, 0, none⟩ (.int .i64 1)).cell? ⟨3, 0, none⟩ = some (.int .i64 m) :=
                  (((HBW.out.setCell (p := ⟨wr.heap.size, 2, none⟩) (by show _ ≤ wr.heap.size; omega) _).setCell (p := ⟨wr.heap.size, 0, none⟩) (by show _ ≤ wr.heap.size; omega) _).cell (p := ⟨3, 0, none⟩) lM).trans hm
                refine (isWord_any T m _ (by omega) hmW).mono ?_
                rintro e w3 ⟨rfl, hw3⟩
                have hw' := hw3.symm
                subst hw'
                clear hmW
                cases hwd : Lex.wordB T.data.toList
                · by_cases h12 : 12 < n
                  · have HFF : Hid (Lex.firstF (s.data.toList.drop a) = (0, [], 2)) := HFI.out.trans (Lex.letters_many (by omega))
                    clear hwd
                    go_wp2_with fail
                    refine (fail_any 2 a (w.heap.size + 1) _ (((((HB2.out.setCell (p := ⟨wr.heap.size, 2, none⟩) (by show _ ≤ wr.heap.size; omega) (.string T)).setCell (p := ⟨wr.heap.size, 0, none⟩) (by show _ ≤ wr.heap.size; omega) (.int .i64 1))).block _ (by omega)).trans HL.out.plc)).mono ?_
                    rintro e w3 ⟨rfl, hb3⟩
                    have hz3 := hb3.size
                    simp only [size_setCell] at hz3
                    have HBX : Hid (Below w.heap.size w ((w2.setCell ⟨wr.heap.size, 2, none⟩ (.string T)).setCell ⟨wr.heap.size, 0, none⟩ (.int .i64 1))) := (((HBW.out.setCell (p := ⟨wr.heap.size, 2, none⟩) (by show _ ≤ wr.heap.size; omega) (.string T)).setCell (p := ⟨wr.heap.size, 0, none⟩) (by show _ ≤ wr.heap.size; omega) (.int .i64 1)))
                    have hR3 : w3.heap[w.heap.size]? = some (.cells #[.int .i64 0, .int .i64 0] 29 (0, 0)) := (hb3.block _ (by simp only [size_setCell]; omega)).trans (((((HB2.out.setCell (p := ⟨wr.heap.size, 2, none⟩) (by show _ ≤ wr.heap.size; omega) (.string T)).setCell (p := ⟨wr.heap.size, 0, none⟩) (by show _ ≤ wr.heap.size; omega) (.int .i64 1))).block _ (by omega)).trans HL.out.res)
                    have r0' : w3.cell? ⟨w.heap.size, 0, none⟩ = some (.int .i64 0) := by simp [World.cell?, hR3]
                    have r1' : w3.cell? ⟨w.heap.size, 1, none⟩ = some (.int .i64 0) := by simp [World.cell?, hR3]
                    have z0' : w3.frozen? ⟨w.heap.size, 0, none⟩ = false := by simp [World.frozen?, hR3]
                    have z1' : w3.frozen? ⟨w.heap.size, 1, none⟩ = false := by simp [World.frozen?, hR3]
                    have HB3 : Hid (Below w.heap.size w w3) := HBX.out.trans (hb3.mono (by simp only [size_setCell]; omega))
                    clear hR3 hb3 r0 r1 z0 z1
                    go_wp2
                    exact bodyPost_ret (v := .tuple #[.slice none 0 0, .agg #[.int .i64 2, .int .i64 (a : Int)]]) (by simp [results, Tryz.results36, go_sem, r0', r1']) rfl ⟨_, [], 2, a, rfl, HL.out.all.trans (Lex.scan_bad (Lex.step_bad HQ.out HNE.out HFF.out (by decide)) (by decide)), World.ownsRow_nil _ _ _ _, (HB3.out.setCell (Nat.le_refl _) _).setCell (Nat.le_refl _) _⟩
                  · have HFF : Hid (Lex.firstF (s.data.toList.drop a) = (1, T.data.toList, 0)) := HFI.out.trans (Lex.letters_name (by omega) (by rw [Lex.list_of]; exact hwd))
                    clear hwd
                    go_wp2_with fail
                    go_meet
                    exact done_of (((HB2.out.setCell (p := ⟨wr.heap.size, 2, none⟩) (by show _ ≤ wr.heap.size; omega) (.string T)).setCell (p := ⟨wr.heap.size, 0, none⟩) (by show _ ≤ wr.heap.size; omega) (.int .i64 1))) (tok_set0 (tok_set2 HT2.out)) HQ.out HNE.out HDN.out HFF.out hplt
                · have h12 : ¬ 12 < n := by have := word_len hwd; rw [Lex.len_of] at this; omega
                  have HFF : Hid (Lex.firstF (s.data.toList.drop a) = (3, T.data.toList, 0)) := HFI.out.trans (Lex.letters_word (by omega) (by rw [Lex.list_of]; exact hwd))
                  clear hwd
                  go_wp2_with fail
                  go_meet
                  exact done_of ((((HB2.out.setCell (p := ⟨wr.heap.size, 2, none⟩) (by show _ ≤ wr.heap.size; omega) (.string T)).setCell (p := ⟨wr.heap.size, 0, none⟩) (by show _ ≤ wr.heap.size; omega) (.int .i64 1))).setCell (p := ⟨wr.heap.size, 0, none⟩) (by show _ ≤ wr.heap.size; omega) (.int .i64 3)) (tok_set0 (tok_set0 (tok_set2 HT2.out))) HQ.out HNE.out HDN.out HFF.out hplt
            case rest =>
              obtain ⟨k, t, hbc, hT, hst, hk, htp, htl⟩ := hcut
              have hzc := hbc.size
              have hA' : wc.heap[w.heap.size + 1]? = some (.cells #[.int .i64 (a : Int)] 3 (0, 0)) := (hbc.block _ (by omega)).trans HL.out.plc
              have hR' : wc.heap[w.heap.size]? = some (.cells #[.int .i64 0, .int .i64 0] 29 (0, 0)) := (hbc.block _ (by omega)).trans HL.out.res
              have HA : Hid (wc.heap[w.heap.size + 1]? = some (.cells #[.int .i64 (a : Int)] 3 (0, 0))) := hA'
              have HR : Hid (wc.heap[w.heap.size]? = some (.cells #[.int .i64 0, .int .i64 0] 29 (0, 0))) := hR'
              have HST : Hid (Lex.stepF s.data.toList a = (k, a, t.data.toList, 0, a + t.size)) := hst
              have HKN : Hid (k ≠ 0) := hk
              have HBC : Hid (Below wr.heap.size wr wc) := hbc
              have t0 : wc.cell? ⟨wr.heap.size, 0, none⟩ = some (.int .i64 k) := by simp [World.cell?, hT]
              have t1 : wc.cell? ⟨wr.heap.size, 1, none⟩ = some (.int .i64 (a : Int)) := by simp [World.cell?, hT]
              have t2 : wc.cell? ⟨wr.heap.size, 2, none⟩ = some (.string t) := by simp [World.cell?, hT]
              have HT : Hid (wc.heap[wr.heap.size]? = some (.cells #[.int .i64 k, .int .i64 (a : Int), .string t] 80 (0, 0))) := hT
              have lT := lt_of_block hT
              clear hA' hR' hst hk hbc hT r0 r1 z0 z1 cA fA hsl
              by_cases hf6 : acc.length = 600
              · have HF6 : Hid (acc.length = 600) := hf6
                have h6 : (600 : Int) ≤ (acc.length : Int) := by omega
                clear hf6
                go_wp2_with fail
                refine (fail_any 2 a (w.heap.size + 1) _ HA.out).mono ?_
                rintro e w3 ⟨rfl, hb3⟩
                have hz3 := hb3.size
                have hR3 : w3.heap[w.heap.size]? = some (.cells #[.int .i64 0, .int .i64 0] 29 (0, 0)) := (hb3.block _ (by omega)).trans HR.out
                have r0 : w3.cell? ⟨w.heap.size, 0, none⟩ = some (.int .i64 0) := by simp [World.cell?, hR3]
                have r1 : w3.cell? ⟨w.heap.size, 1, none⟩ = some (.int .i64 0) := by simp [World.cell?, hR3]
                have z0 : w3.frozen? ⟨w.heap.size, 0, none⟩ = false := by simp [World.frozen?, hR3]
                have z1 : w3.frozen? ⟨w.heap.size, 1, none⟩ = false := by simp [World.frozen?, hR3]
                have HB3 : Hid (Below w.heap.size w w3) := (HL.out.bel.trans (HBC.out.mono (by omega))).trans (hb3.mono (by omega))
                clear hR3 hb3
                go_wp2
                exact bodyPost_ret (v := .tuple #[.slice none 0 0, .agg #[.int .i64 2, .int .i64 (a : Int)]]) (by simp [results, Tryz.results36, go_sem, r0, r1]) rfl ⟨_, [], 2, a, rfl, HL.out.all.trans (Lex.scan_full HST.out HKN.out HF6.out), World.ownsRow_nil _ _ _ _, (HB3.out.setCell (Nat.le_refl _) _).setCell (Nat.le_refl _) _⟩
              · have h6 : ¬ (600 : Int) ≤ (acc.length : Int) := by have := HL.out.len; omega
                have HF6 : Hid (¬ acc.length = 600) := hf6
                have hlen := HL.out.len
                have HO : Hid (wc.ownsRow (w.heap.size + 2) 80 3 (.slice ao acc.length cap) acc.length (Lex.cellsOf acc)) := loopT_own HL.out HBC.out
                obtain ⟨i0, hi, hz0, hz1, hz2⟩ := info_parts Tryz.infoTok
                clear hf6
                go_wp2_with (at_builtin; refine wpList_append_own _ rfl _ _ 59 rfl (w.heap.size + 2) 80 i0 (.agg #[.int .i64 0, .int .i64 0, .string ⟨#[]⟩]) 3 32 Tryz.underlying59 hi hz0 hz1 hz2 rfl (by decide) _ _ _ rfl (World.ownsRow.alloc HO.out _) ⟨wc.heap.size, 0, none⟩ 1 1 [.int .i64 k, .int .i64 (a : Int), .string t] rfl rfl ?c1 ?c2 ?c3 ?c4 ?c5 ?_)
                case c2 => first | exact ⟨rfl, rfl, rfl⟩ | (intro u hu; simp at hu; rcases hu with rfl | rfl | rfl <;> rfl)
                case c3 => unfold maxLen; omega
                case c4 => omega
                case c5 => first | omega | (simp; omega)
                · intro v' w2 hown2 hgrow2 _
                  have hz2' := hgrow2.size
                  simp only [World.size_alloc] at hz2'
                  have HN : Hid (LoopT s w (w2.setCell ⟨w.heap.size + 1, 0, none⟩ (.int .i64 ((a + t.size : Nat) : Int))) v' (a + t.size) f (acc ++ [(k, a, t.data.toList)])) := loopT_next HL.out HBC.out HKN.out htp htl HST.out HF6.out hown2 hgrow2
                  have HMS : Hid (s.size - Lex.placeOf (w2.setCell ⟨w.heap.size + 1, 0, none⟩ (.int .i64 ((a + t.size : Nat) : Int))) (w.heap.size + 1) < s.size - Lex.placeOf wr (w.heap.size + 1)) := by
                    show _ < _; rw [Lex.placeOf_of HN.out.plc, Lex.placeOf_of HL.out.plc]; omega
                  have low : ∀ b x, b < wc.heap.size → some b ≠ (Value.slice ao acc.length cap).ownBlock → wc.heap[b]? = some x → w2.heap[b]? = some x := fun b x hb hne hx => by
                    rw [hgrow2.block b (by simp; omega) hne]; exact heap_past_alloc hx
                  have hA2 : w2.heap[w.heap.size + 1]? = some (.cells #[.int .i64 (a : Int)] 3 (0, 0)) := low _ _ (by omega) (fun e => by have := (HO.out.lt _ e.symm).1; omega) HA.out
                  have hT2 : w2.heap[wr.heap.size]? = some (.cells #[.int .i64 k, .int .i64 (a : Int), .string t] 80 (0, 0)) := low _ _ (by omega) (fun e => by have := (HL.out.own.lt _ e.symm).2; omega) HT.out
                  have cA2 := cell_of_one hA2
                  have fA2 := free_of_one hA2
                  have x2 : w2.cell? ⟨wr.heap.size, 2, none⟩ = some (.string t) := by simp [World.cell?, hT2]
                  clear hown2 hgrow2 low hA2 hT2 t0 t1 t2
                  go_wp2
                  go_roundw
                  case rel => exact ⟨a + t.size, f, _, HN.out⟩
                  case measure => exact HMS.out
          · obtain ⟨k, hk⟩ : ∃ k, Lib.indexByte (s.data.toList.drop a) 10 = k := ⟨_, rfl⟩
            have HK : Hid (Lib.indexByte (s.data.toList.drop a) 10 = k) := hk
            have hcs : (([c] : List UInt8) == [35]) = true := by
              have : c = 35 := UInt8.toNat_inj.1 (by have := eq_of_beq hh; simp; omega)
              rw [this]; rfl
            have hgh := Lex.gap_hash s.data.toList a (by rw [Lex.len_of]; exact hlt) (by have := HBL.out; rw [HC.out] at this; exact this) (by rw [HC.out] at hh; exact hh)
            by_cases hk0 : 0 ≤ k
            · obtain ⟨e1, e2⟩ := (Lex.line_run (s.data.toList.drop a)).1 (by rw [hk]; exact hk0)
              rw [hk] at e1
              rw [List.length_drop, Lex.len_of] at e2
              have hrp : 0 < Lex.runLen Lex.lineB (s.data.toList.drop a) := by
                have hl : a < s.data.toList.length := by rw [Lex.len_of]; exact hlt
                rw [Lex.runLen_drop' hl]
                have : Lex.lineB ((s.data.toList[a].toNat : Nat) : Int) = true := by
                  rw [show ((s.data.toList[a].toNat : Nat) : Int) = 35 from by rw [HC.out] at hh; exact eq_of_beq hh]; rfl
                rw [if_pos this]; omega
              obtain ⟨n, hn⟩ : ∃ n, Lex.runLen Lex.lineB (s.data.toList.drop a) = n := ⟨_, rfl⟩
              rw [hn] at e1 e2 hgh hrp
              subst e1
              have HGH : Hid (a + Lex.gapF false (s.data.toList.drop a) = (a + n) + Lex.gapF false (s.data.toList.drop (a + n))) := by show _ = _; omega
              have HLM : Hid (LoopT s w (wr.setCell ⟨w.heap.size + 1, 0, none⟩ (.int .i64 ((a + n : Nat) : Int))) (.slice ao acc.length cap) (a + n) f0 acc) := loopT_move HL.out (by omega) (by omega) HGH.out
              have HMS : Hid (s.size - Lex.placeOf (wr.setCell ⟨w.heap.size + 1, 0, none⟩ (.int .i64 ((a + n : Nat) : Int))) (w.heap.size + 1) < s.size - Lex.placeOf wr (w.heap.size + 1)) := by
                show _ < _; rw [Lex.placeOf_of HLM.out.plc, Lex.placeOf_of HL.out.plc]; omega
              clear hgh hn hk hh
              go_wp2_with fail
              refine (contains_blanks c _ false HBL).mono ?_
              rintro e w1 ⟨rfl, hw1⟩
              have hw' := hw1.symm
              subst hw'
              go_wp2_with fail
              refine (index_feed s a _ _ HK).mono ?_
              rintro e w1 ⟨rfl, hw1⟩
              have hw' := hw1.symm
              subst hw'
              go_wp2
              go_roundw
              case rel => exact ⟨a + n, f0, acc, HLM.out⟩
              case measure => exact HMS.out
            · have e1 := (Lex.line_run (s.data.toList.drop a)).2 (by rw [hk]; exact hk0)
              have HEND : Hid (Lex.scanAll s.data.toList = (acc, 0, 0)) := by
                refine HL.out.all.trans (Lex.scan_end (Lex.step_end (q := s.data.toList.length) ?_ rfl))
                rw [hgh, e1, List.length_drop, Lex.gap_end _ _ (by rw [Lex.len_of]; omega), Lex.len_of]; omega
              clear hgh hk hh
              go_wp2_with fail
              refine (contains_blanks c _ false HBL).mono ?_
              rintro e w1 ⟨rfl, hw1⟩
              have hw' := hw1.symm
              subst hw'
              go_wp2_with fail
              refine (index_feed s a _ _ HK).mono ?_
              rintro e w1 ⟨rfl, hw1⟩
              have hw' := hw1.symm
              subst hw'
              go_wp2
              exact bodyPost_ret (v := .tuple #[.slice ao acc.length cap, .agg #[.int .i64 0, .int .i64 0]]) (by simp [results, Tryz.results36, go_sem, r0, r1]) rfl ⟨_, acc, 0, 0, rfl, HEND.out, ownsRow_le' (ownsRow_setCell_below (ownsRow_setCell_below HL.out.own (by show w.heap.size < _; omega) _) (by show w.heap.size < _; omega) _) (by omega), (HL.out.bel.setCell (Nat.le_refl _) _).setCell (Nat.le_refl _) _⟩
        · have HBL : Hid (Lex.blankB ((c.toNat : Nat) : Int) = true) := hbl
          have hgb := Lex.gap_blank s.data.toList a (by rw [Lex.len_of]; exact hlt) (by have := HBL.out; rw [HC.out] at this; exact this)
          have HLM : Hid (LoopT s w (wr.setCell ⟨w.heap.size + 1, 0, none⟩ (.int .i64 ((a + 1 : Nat) : Int))) (.slice ao acc.length cap) (a + 1) f0 acc) := loopT_move HL.out (by omega) (by omega) (by omega)
          have HMS : Hid (s.size - Lex.placeOf (wr.setCell ⟨w.heap.size + 1, 0, none⟩ (.int .i64 ((a + 1 : Nat) : Int))) (w.heap.size + 1) < s.size - Lex.placeOf wr (w.heap.size + 1)) := by
            show _ < _; rw [Lex.placeOf_of HLM.out.plc, Lex.placeOf_of HL.out.plc]; omega
          clear hgb hbl
          go_wp2_with fail
          refine (contains_blanks c _ true HBL).mono ?_
          rintro e w1 ⟨rfl, hw1⟩
          have hw' := hw1.symm
          subst hw'
          go_wp2
          go_roundw
          case rel => exact ⟨a + 1, f0, acc, HLM.out⟩
          case measure => exact HMS.out
      · go_wp2
        have hae : a = s.size := by omega
        exact bodyPost_ret (v := .tuple #[.slice ao acc.length cap, .agg #[.int .i64 0, .int .i64 0]]) (by simp [results, Tryz.results36, go_sem, r0, r1]) rfl ⟨_, acc, 0, 0, rfl, HL.out.all.trans (Lex.scan_end (Lex.step_end (q := a) (by rw [Lex.gap_end _ _ (by rw [Lex.len_of]; omega)]; omega) (by rw [Lex.len_of]; exact hae))), ownsRow_le' (ownsRow_setCell_below (ownsRow_setCell_below HL.out.own (by show w.heap.size < _; omega) _) (by show w.heap.size < _; omega) _) (by omega), (HL.out.bel.setCell (Nat.le_refl _) _).setCell (Nat.le_refl _) _⟩
end Go.Proofs.YtcdeicfegfedfaaGreatDoor
