/- Contract of (*reader).bound, where primary has one. Contracts of (*reader).expr, call and named, where bound has one. Contract of (*reader).release, where expr has one. Contract of (*reader).primary. -/
import Derived.Test.YtcdeicfegfedfaaGreatDoorRlE
import Derived.Test.YtcdeicfegfedfaaGreatDoorGaRl
import Derived.Deep.RegionWith
import Derived.Deep.DeepCutAuto
import Derived.Defers
import Derived.Recover
namespace Go.Proofs.YtcdeicfegfedfaaGreatDoor
open Go.RowKit
open Par (Tok Po Tr nx atP isT ba Res)

def ZE : Array Value := #[.int .i64 0, .int .i64 0, .int .i64 0, .int .i64 0, .string ⟨#[]⟩, .slice none 0 0, .slice none 0 0]
/- The result's block is laid at the head and filled at the end. -/
theorem fin7 {w wz : World} {rb e : Nat} {bl pr : Int} {r : List Tok} {v : Value} {t : Tr} {y0 y1 y2 y3 y4 y5 y6 : Value} (hg : w.grownBy wz (some rb)) (hr : Rd wz rb e bl pr r v) (hrl : rb < w.heap.size) (ht : TrIs wz (fun b => w.heap.size + 1 ≤ b) t [y0, y1, y2, y3, y4, y5, y6]) :
    w.grownBy (((((((wz.setCell ⟨w.heap.size, 0, none⟩ y0).setCell ⟨w.heap.size, 1, none⟩ y1).setCell ⟨w.heap.size, 2, none⟩ y2).setCell ⟨w.heap.size, 3, none⟩ y3).setCell ⟨w.heap.size, 4, none⟩ y4).setCell ⟨w.heap.size, 5, none⟩ y5).setCell ⟨w.heap.size, 6, none⟩ y6) (some rb) ∧
    Rd (((((((wz.setCell ⟨w.heap.size, 0, none⟩ y0).setCell ⟨w.heap.size, 1, none⟩ y1).setCell ⟨w.heap.size, 2, none⟩ y2).setCell ⟨w.heap.size, 3, none⟩ y3).setCell ⟨w.heap.size, 4, none⟩ y4).setCell ⟨w.heap.size, 5, none⟩ y5).setCell ⟨w.heap.size, 6, none⟩ y6) rb e bl pr r v ∧
    TrIs (((((((wz.setCell ⟨w.heap.size, 0, none⟩ y0).setCell ⟨w.heap.size, 1, none⟩ y1).setCell ⟨w.heap.size, 2, none⟩ y2).setCell ⟨w.heap.size, 3, none⟩ y3).setCell ⟨w.heap.size, 4, none⟩ y4).setCell ⟨w.heap.size, 5, none⟩ y5).setCell ⟨w.heap.size, 6, none⟩ y6) (fun b => w.heap.size ≤ b) t [y0, y1, y2, y3, y4, y5, y6] := by
  obtain ⟨wf, hwf⟩ : ∃ wf, wf = (((((((wz.setCell ⟨w.heap.size, 0, none⟩ y0).setCell ⟨w.heap.size, 1, none⟩ y1).setCell ⟨w.heap.size, 2, none⟩ y2).setCell ⟨w.heap.size, 3, none⟩ y3).setCell ⟨w.heap.size, 4, none⟩ y4).setCell ⟨w.heap.size, 5, none⟩ y5).setCell ⟨w.heap.size, 6, none⟩ y6) := ⟨_, rfl⟩
  have hk : wz.grownBy wf (some w.heap.size) := by rw [hwf]; exact keptE
  rw [← hwf]
  have hb : Below w.heap.size wz wf := ⟨hk.os, hk.tape, hk.output, hk.size, fun k h => hk.block k (by have := hg.size; omega) (by simp; omega)⟩
  refine ⟨((Fr.of_grown hg (Nat.le_refl _)).trans (Fr.of_below hb)).grown, hr.keeps hb (by omega), (ht.keeps (Keeps.of_grown hk fun b hb => by simp; omega)).mono fun b hb _ => by omega⟩
/- A row of two expressions of its own. -/
theorem rowTwo {w : World} {S : Nat → Prop} {x y : Tr} {cx cy : List Value} (hx : TrIs w S x cx) (hy : TrIs w S y cy) (hS : S w.heap.size) (e : TypeId) : RowV (w.alloc (.cells (cx ++ cy).toArray e)) S 7 (.slice (some ⟨w.heap.size, 0, none⟩) 2 2) [cx, cy] :=
  RowV.new rfl (by simp [maxLen]) (by simp) (fun i hi => by
    match i, hi with
    | 0, _ => exact hx.len
    | 1, _ => exact hy.len) hS
theorem rowOne {w : World} {S : Nat → Prop} {x : Tr} {cx : List Value} (hx : TrIs w S x cx) (hS : S w.heap.size) (e : TypeId) : RowV (w.alloc (.cells cx.toArray e)) S 7 (.slice (some ⟨w.heap.size, 0, none⟩) 1 1) [cx] :=
  RowV.new rfl (by simp [maxLen]) (by simp) (fun i hi => by
    match i, hi with
    | 0, _ => exact hx.len) hS
theorem labNone (w : World) (S : Nat → Prop) : LabV w S (.slice none 0 0) [] := ⟨⟨[], rfl, RowV.none _ _ _ _, fun i hi => by simp at hi⟩, fun p hp => by cases hp⟩
theorem opTwo {w : World} {S : Nat → Prop} {t : Tok} {x y : Tr} {cx cy : List Value} (ht : t.2.2.length ≤ 4000) (hx : TrIs w S x cx) (hy : TrIs w S y cy) (hS : S w.heap.size) (e : TypeId) :
    TrIs (w.alloc (.cells (cx ++ cy).toArray e)) S (Par.opT t [x, y]) [.int .i64 3, .int .i64 (t.2.1 : Int), .int .i64 0, .int .i64 0, .string (ba t.2.2), .slice none 0 0, .slice (some ⟨w.heap.size, 0, none⟩) 2 2] := by
  have hk : Keeps S w (w.alloc (.cells (cx ++ cy).toArray e)) := Keeps.of_below ((Below.refl _ _).alloc (Nat.le_refl _) _)
  refine .mk (by rw [ba_size]; unfold maxLen; omega) (labNone _ _) (rowTwo hx hy hS e) rfl (fun i hi hi' => ?_)
  match i, hi with
  | 0, _ => exact hx.keeps hk
  | 1, _ => exact hy.keeps hk
theorem opOne {w : World} {S : Nat → Prop} {t : Tok} {x : Tr} {cx : List Value} (ht : t.2.2.length ≤ 4000) (hx : TrIs w S x cx) (hS : S w.heap.size) (e : TypeId) :
    TrIs (w.alloc (.cells cx.toArray e)) S (Par.opT t [x]) [.int .i64 3, .int .i64 (t.2.1 : Int), .int .i64 0, .int .i64 0, .string (ba t.2.2), .slice none 0 0, .slice (some ⟨w.heap.size, 0, none⟩) 1 1] := by
  have hk : Keeps S w (w.alloc (.cells cx.toArray e)) := Keeps.of_below ((Below.refl _ _).alloc (Nat.le_refl _) _)
  refine .mk (by rw [ba_size]; unfold maxLen; omega) (labNone _ _) (rowOne hx hS e) rfl (fun i hi hi' => ?_)
  match i, hi with
  | 0, _ => exact hx.keeps hk
def PrimC (rb e : Nat) (bl pr : Int) (P : List Tok → Res Tr) : Prop := ∀ (w : World) (ts : List Tok) (v : Value), Rd w rb e bl pr ts v → Calls Tryz.prog 52 #[.pointer (some ⟨rb, 0, none⟩)] w (Post w rb e bl pr (P ts) (VE w.heap.size))
def BndC (rb e : Nat) (bl pr : Int) (P : List Tok → Res Tr) (j : Nat) : Prop := ∀ (w : World) (ts : List Tok) (v : Value), Rd w rb e bl pr ts v → Calls Tryz.prog 30 #[.pointer (some ⟨rb, 0, none⟩), .int .i64 ((6 - j : Nat) : Int)] w (Post w rb e bl pr (Par.bd P j ts) (VE w.heap.size))
set_option maxRecDepth 100000 in
set_option maxHeartbeats 4000000 in
theorem bnd_zero {rb e : Nat} {bl pr : Int} {P : List Tok → Res Tr} (hP : PrimC rb e bl pr P) : BndC rb e bl pr P 0 := by
  intro w ts v h
  have hrl := h.lt
  obtain ⟨w0, hw0⟩ : ∃ w0, w0 = w.alloc (.cells ZE 26) := ⟨_, rfl⟩
  have hbel : Below w.heap.size w w0 := by rw [hw0]; exact (Below.refl _ _).alloc (Nat.le_refl _) _
  have hs0 : w0.heap.size = w.heap.size + 1 := by rw [hw0]; simp
  have hres : w0.heap[w.heap.size]? = some (.cells ZE 26 (0, 0)) := by rw [hw0]; exact heap_at_alloc _ _ _ rfl
  have HP := hP w0 ts v (h.keeps hbel h.lt)
  unfold ZE at hw0
  clear h hP
  go_enter Tryz.func30, Tryz.ntmps30
  go_wp2_with fail
  rw [← hw0]
  refine HP.mono ?_
  rintro x w1 ⟨hg1, ⟨a, r, hr, u, v1, rfl, ⟨z0, z1, z2, z3, z4, z5, m5, d5, z6, m6, d6, rfl, hx⟩, h1⟩ | ⟨cc, q, hr, rfl, r, v1, h1⟩⟩
  · have hres1 : w1.heap[w.heap.size]? = some (.cells ZE 26 (0, 0)) := (hg1.block _ (by omega) (by simp; omega)).trans hres
    have hn1 := lt_of_block hres1
    unfold ZE at hres1
    obtain ⟨⟨q0, q1, q2, q3, q4, q5, q6⟩, p0, p1, p2, p3, p4, p5, p6⟩ := blkE hres1
    have HF := Hid.out (p := _) (show Hid _ from fin7 (grown_trans (grown_of_below _ hbel) hg1) h1 hrl (by rw [hs0] at hx; exact hx))
    have HFF : Hid _ := HF
    have HR : Hid (P ts = .ok a r) := hr
    clear hg1 hx h1 hres1 HF hr HP hres hbel
    go_wp2
    refine bodyPost_ret (v := .agg #[.int .i64 z0, .int .i64 z1, .int .i64 z2, .int .i64 z3, .string z4, .slice z5 m5 d5, .slice z6 m6 d6]) (by simp [results, Tryz.results30, go_sem, q0, q1, q2, q3, q4, q5, q6]) rfl ?_
    obtain ⟨f1, f2, f3⟩ := HFF.out
    exact ⟨f1, .inl ⟨_, _, HR.out, _, _, rfl, ⟨_, _, _, _, _, _, _, _, _, _, _, rfl, f3⟩, f2⟩⟩
  · exact ⟨rfl, grown_trans (grown_of_below _ hbel) hg1, .inr ⟨_, _, hr, rfl, _, _, h1⟩⟩
def leftOf (w : World) (rb : Nat) : Nat := match w.cell? ⟨rb, 0, none⟩ with | some (.slice _ n _) => n | _ => 0
theorem leftOf_of {w : World} {rb e : Nat} {bl pr : Int} {ts : List Tok} {v : Value} (h : Rd w rb e bl pr ts v) : leftOf w rb = ts.length := by
  obtain ⟨ao, b, off, c, hv, _⟩ := h.row
  unfold leftOf
  rw [h.cells.1, hv]
  simp
theorem Rd.drew {w : World} {rb e : Nat} {bl pr : Int} {ts : List Tok} {v : Value} (h : Rd w rb e bl pr ts v) : Rd w.drew rb e bl pr ts v := h.keeps (B := w.heap.size) ⟨rfl, rfl, rfl, Nat.le_refl _, fun _ _ => rfl⟩ h.lt
theorem left_lt {w w' : World} {rb e n : Nat} {bl pr : Int} {ts : List Tok} {v : Value} (h : Rd w' rb e bl pr ts v) (g : leftOf w rb = n + 1) (hl : ts.length ≤ n) : leftOf w' rb < leftOf w rb := by
  rw [leftOf_of h, g]; omega
/- What bound's loop holds: X is the block of x. -/
structure Lp (w wr : World) (rb e X : Nat) (bl pr : Int) (Q : List Tok → Res Tr) (lv : Nat) (all : Res Tr) (y : Tr) (cs : List Value) (ts : List Tok) (v : Value) : Prop where
  rd : Rd wr rb e bl pr ts v
  gr : w.grownBy wr (some rb)
  res : wr.heap[w.heap.size]? = some (.cells ZE 26 (0, 0))
  xb : wr.heap[X]? = some (.cells cs.toArray 26 (0, 0))
  big : w.heap.size < X
  tr : TrIs wr (fun b => w.heap.size + 1 ≤ b ∧ b ≠ X) y cs
  eq : all = Par.loopF Q lv ts.length y ts
theorem loop_no {Q : List Tok → Res Tr} {lv : Nat} {y : Tr} {ts : List Tok} (h : ¬ Par.levF (nx ts).2.2 = lv) : Par.loopF Q lv ts.length y ts = .ok y ts := by
  cases hn : ts.length with
  | zero => rfl
  | succ n => unfold Par.loopF; rw [if_neg h]
theorem loop_yes {Q : List Tok → Res Tr} {lv : Nat} {y : Tr} {t : Tok} {r : List Tok} (h : Par.levF t.2.2 = lv) (hQ : Par.Sfx Q) (hl : 0 < lv) : Par.loopF Q lv (t :: r).length y (t :: r) = (Q r).bind fun z r2 => Par.loopF Q lv r2.length (Par.opT t [y, z]) r2 := by
  show Par.loopF Q lv (r.length + 1) y (t :: r) = _
  conv => lhs; unfold Par.loopF
  rw [if_pos (show Par.levF (nx (t :: r)).2.2 = lv from h)]
  show (Q r).bind (fun z r2 => Par.loopF Q lv r.length (Par.opT t [y, z]) r2) = _
  cases hq : Q r with
  | no c q => rfl
  | ok z r2 => exact Par.loopF_fuel hQ hl _ _ _ _ (hQ _ _ _ hq).length_le (Nat.le_refl _)
theorem lp_next {w wk w4 : World} {rb e X : Nat} {bl pr : Int} {Q : List Tok → Res Tr} {lv : Nat} {all : Res Tr} {y z : Tr} {t : Tok} {r4 : List Tok} {v4 : Value} {z0 z1 z2 z3 : Int} {z4 : ByteArray} {z5 : Option Addr} {m5 d5 : Nat} {z6 : Option Addr} {m6 d6 : Nat} {y0 y1 y2 y3 : Int} {y4 : ByteArray} {y5 : Option Addr} {n5 c5 : Nat} {y6 : Option Addr} {n6 c6 : Nat}
    (HGk : w.grownBy wk (some rb)) (HG4 : wk.drew.grownBy w4 (some rb)) (hx4 : w4.heap[X]? = some (.cells #[.int .i64 z0, .int .i64 z1, .int .i64 z2, .int .i64 z3, .string z4, .slice z5 m5 d5, .slice z6 m6 d6] 26 (0, 0))) (HRk : wk.heap[w.heap.size]? = some (.cells ZE 26 (0, 0))) (HTk : TrIs wk (fun b => w.heap.size + 1 ≤ b ∧ b ≠ X) y [.int .i64 z0, .int .i64 z1, .int .i64 z2, .int .i64 z3, .string z4, .slice z5 m5 d5, .slice z6 m6 d6]) (HX4 : ElT w4 (fun b => wk.drew.heap.size ≤ b) z [.int .i64 y0, .int .i64 y1, .int .i64 y2, .int .i64 y3, .string y4, .slice y5 n5 c5, .slice y6 n6 c6]) (H4 : Rd w4 rb e bl pr r4 v4)
    (hXb : w.heap.size < X) (hXk : X < wk.heap.size) (hrl : rb < w.heap.size) (ht : t.2.2.length ≤ 4000) (heq : all = Par.loopF Q lv r4.length (Par.opT t [y, z]) r4) :
    Lp w ((((((((w4.setCell ⟨X, 0, none⟩ (.int .i64 3)).setCell ⟨X, 1, none⟩ (.int .i64 (t.2.1 : Int))).setCell ⟨X, 2, none⟩ (.int .i64 0)).setCell ⟨X, 3, none⟩ (.int .i64 0)).setCell ⟨X, 4, none⟩ (.string (ba t.2.2))).setCell ⟨X, 5, none⟩ (.slice none 0 0)).setCell ⟨X, 6, none⟩ (.slice (some ⟨w4.heap.size, 0, none⟩) 2 2)).alloc (.cells #[.int .i64 z0, .int .i64 z1, .int .i64 z2, .int .i64 z3, .string z4, .slice z5 m5 d5, .slice z6 m6 d6, .int .i64 y0, .int .i64 y1, .int .i64 y2, .int .i64 y3, .string y4, .slice y5 n5 c5, .slice y6 n6 c6] 26)) rb e X bl pr Q lv all (Par.opT t [y, z]) [.int .i64 3, .int .i64 (t.2.1 : Int), .int .i64 0, .int .i64 0, .string (ba t.2.2), .slice none 0 0, .slice (some ⟨w4.heap.size, 0, none⟩) 2 2] r4 v4 := by
  obtain ⟨ws, hws⟩ : ∃ ws, ws = (((((((w4.setCell ⟨X, 0, none⟩ (.int .i64 3)).setCell ⟨X, 1, none⟩ (.int .i64 (t.2.1 : Int))).setCell ⟨X, 2, none⟩ (.int .i64 0)).setCell ⟨X, 3, none⟩ (.int .i64 0)).setCell ⟨X, 4, none⟩ (.string (ba t.2.2))).setCell ⟨X, 5, none⟩ (.slice none 0 0)).setCell ⟨X, 6, none⟩ (.slice (some ⟨w4.heap.size, 0, none⟩) 2 2)) := ⟨_, rfl⟩
  have hk : w4.grownBy ws (some X) := by rw [hws]; exact keptE
  have hsz : ws.heap.size = w4.heap.size := by rw [hws]; simp [World.setCell]
  have hwx : ws.heap[X]? = some (.cells ([.int .i64 3, .int .i64 (t.2.1 : Int), .int .i64 0, .int .i64 0, .string (ba t.2.2), .slice none 0 0, .slice (some ⟨w4.heap.size, 0, none⟩) 2 2] : List Value).toArray 26 (0, 0)) := by rw [hws]; simp [World.setCell, Array.getElem?_modify, hx4]
  rw [← hws]
  have hz4 : wk.heap.size ≤ w4.heap.size := HG4.size
  have hbs : Below w.heap.size w4 ws := ⟨hk.os, hk.tape, hk.output, hk.size, fun k h => hk.block k (by omega) (by simp; omega)⟩
  have hba : Below ws.heap.size ws (ws.alloc (.cells #[.int .i64 z0, .int .i64 z1, .int .i64 z2, .int .i64 z3, .string z4, .slice z5 m5 d5, .slice z6 m6 d6, .int .i64 y0, .int .i64 y1, .int .i64 y2, .int .i64 y3, .string y4, .slice y5 n5 c5, .slice y6 n6 c6] 26)) := (Below.refl _ _).alloc (Nat.le_refl _) _
  have hy : TrIs ws (fun b => w.heap.size + 1 ≤ b ∧ b ≠ X) y [.int .i64 z0, .int .i64 z1, .int .i64 z2, .int .i64 z3, .string z4, .slice z5 m5 d5, .slice z6 m6 d6] := (HTk.keeps (w' := w4) ⟨HG4.size, fun b hb hl => HG4.block b hl (by have := hb.1; simp; omega)⟩).keeps (Keeps.of_grown hk fun b hb => by have := hb.2; simp; exact this)
  have hz : TrIs ws (fun b => w.heap.size + 1 ≤ b ∧ b ≠ X) z [.int .i64 y0, .int .i64 y1, .int .i64 y2, .int .i64 y3, .string y4, .slice y5 n5 c5, .slice y6 n6 c6] := (TrIs.mono HX4 fun b (hb : wk.heap.size ≤ b) _ => ⟨by omega, by omega⟩).keeps (Keeps.of_grown hk fun b hb => by have := hb.2; simp; exact this)
  have ho := opTwo (t := t) ht hy hz (by constructor <;> omega) 26
  refine ⟨(H4.keeps hbs hrl).keeps hba (by omega), grown_below (((Fr.of_grown (grown_trans (grown_drew HGk) HG4) (Nat.le_refl _)).trans (Fr.of_below hbs)).grown) hba, ?_, (hba.block _ (by omega)).trans hwx, hXb, ?_, heq⟩
  · rw [hba.block _ (by omega), hk.block _ (by omega) (by simp; omega), HG4.block _ (show w.heap.size < wk.heap.size by omega) (by simp; omega)]; exact HRk
  · rw [hsz] at ho; exact ho
end Go.Proofs.YtcdeicfegfedfaaGreatDoor

namespace Go.Proofs.YtcdeicfegfedfaaGreatDoor
open Go.RowKit
open Par (Tok Po Tr nx atP isT ba Res)

def ExpC (rb e : Nat) (bl pr : Int) (E : List Tok → Res Tr) : Prop := ∀ (w : World) (ts : List Tok) (v : Value), Rd w rb e bl pr ts v → Calls Tryz.prog 13 #[.pointer (some ⟨rb, 0, none⟩)] w (Post w rb e bl pr (E ts) (VE w.heap.size))
set_option maxRecDepth 100000 in
set_option maxHeartbeats 4000000 in
theorem exprC {rb e : Nat} {bl pr : Int} {P : List Tok → Res Tr} (hB : BndC rb e bl pr P 5) : ExpC rb e bl pr (Par.bd P 5) := by
  intro w ts v h
  have hrl := h.lt
  obtain ⟨w0, hw0⟩ : ∃ w0, w0 = w.alloc (.cells ZE 26) := ⟨_, rfl⟩
  have hbel : Below w.heap.size w w0 := by rw [hw0]; exact (Below.refl _ _).alloc (Nat.le_refl _) _
  have hs0 : w0.heap.size = w.heap.size + 1 := by rw [hw0]; simp
  have hres : w0.heap[w.heap.size]? = some (.cells ZE 26 (0, 0)) := by rw [hw0]; exact heap_at_alloc _ _ _ rfl
  have HP := hB w0 ts v (h.keeps hbel h.lt)
  unfold ZE at hw0
  clear h hB
  go_enter Tryz.func13, Tryz.ntmps13
  go_wp2_with fail
  rw [← hw0]
  refine HP.mono ?_
  rintro x w1 ⟨hg1, ⟨a, r, hr, u, v1, rfl, ⟨z0, z1, z2, z3, z4, z5, m5, d5, z6, m6, d6, rfl, hx⟩, h1⟩ | ⟨cc, q, hr, rfl, r, v1, h1⟩⟩
  · have hres1 : w1.heap[w.heap.size]? = some (.cells ZE 26 (0, 0)) := (hg1.block _ (by omega) (by simp; omega)).trans hres
    have hn1 := lt_of_block hres1
    unfold ZE at hres1
    obtain ⟨⟨q0, q1, q2, q3, q4, q5, q6⟩, p0, p1, p2, p3, p4, p5, p6⟩ := blkE hres1
    have HF := fin7 (grown_trans (grown_of_below _ hbel) hg1) h1 hrl (by rw [hs0] at hx; exact hx)
    have HFF : Hid _ := HF
    have HR : Hid (Par.bd P 5 ts = .ok a r) := hr
    clear hg1 hx h1 hres1 HF hr HP hres hbel
    go_wp2
    refine bodyPost_ret (v := .agg #[.int .i64 z0, .int .i64 z1, .int .i64 z2, .int .i64 z3, .string z4, .slice z5 m5 d5, .slice z6 m6 d6]) (by simp [results, Tryz.results13, go_sem, q0, q1, q2, q3, q4, q5, q6]) rfl ?_
    obtain ⟨f1, f2, f3⟩ := HFF.out
    exact ⟨f1, .inl ⟨_, _, HR.out, _, _, rfl, ⟨_, _, _, _, _, _, _, _, _, _, _, rfl, f3⟩, f2⟩⟩
  · exact ⟨rfl, grown_trans (grown_of_below _ hbel) hg1, .inr ⟨_, _, hr, rfl, _, _, h1⟩⟩
/- A call's parts, behind its name. -/
set_option maxRecDepth 100000 in
set_option maxHeartbeats 4000000 in
theorem callC {rb e : Nat} {bl pr : Int} {E : List Tok → Res Tr} (hE : ExpC rb e bl pr E) {w : World} {ts : List Tok} {v : Value} (h : Rd w rb e bl pr ts v) (q : Nat) (s : ByteArray) (hs : s.size ≤ maxLen) :
    Calls Tryz.prog 127 #[.pointer (some ⟨rb, 0, none⟩), .int .i64 (q : Int), .string s] w (Post w rb e bl pr ((Par.encl e [40] [44] [41] 4 E ts).bind fun a r => .ok (Tr.mk 4 q 0 0 s [] a) r) (VE w.heap.size)) := by
  have hmf : ∀ (fn : Fn) (first cap : Array Value) (w : World), (Instr.makeFunc fn first cap).run Tryz.prog w = .ok (.func fn first cap) w := fun _ _ _ _ => rfl
  have hrl := h.lt
  obtain ⟨w0, hw0⟩ : ∃ w0, w0 = w.alloc (.cells ZE 26) := ⟨_, rfl⟩
  have hbel : Below w.heap.size w w0 := by rw [hw0]; exact (Below.refl _ _).alloc (Nat.le_refl _) _
  have hs0 : w0.heap.size = w.heap.size + 1 := by rw [hw0]; simp
  have hres : w0.heap[w.heap.size]? = some (.cells ZE 26 (0, 0)) := by rw [hw0]; exact heap_at_alloc _ _ _ rfl
  have HP := enclE (h.keeps hbel h.lt) ⟨#[40]⟩ ⟨#[44]⟩ ⟨#[41]⟩ (by decide) (by decide) (by decide) 4 (by omega) (by omega) 13 #[.pointer (some ⟨rb, 0, none⟩)] #[] (enters_of Tryz.func13 (by kernel_rfl) rfl) E (fun w' ts' v' _ hr => hE w' ts' v' hr)
  unfold ZE at hw0
  clear h hE
  go_enter Tryz.func127, Tryz.ntmps127
  go_wp2_with fail
  rw [← hw0]
  refine HP.mono ?_
  rintro x w1 ⟨hg1, ⟨a, r, hr, u, v1, rfl, ⟨B, hB, ho⟩, h1⟩ | ⟨cc, q1, hr, rfl, r, v1, h1⟩⟩
  · obtain ⟨ao, c, rfl⟩ := ho.slice
    have hres1 : w1.heap[w.heap.size]? = some (.cells ZE 26 (0, 0)) := (hg1.block _ (by omega) (by simp; omega)).trans hres
    have hn1 := lt_of_block hres1
    unfold ZE at hres1
    obtain ⟨⟨q0, q1, q2, q3, q4, q5, q6⟩, p0, p1, p2, p3, p4, p5, p6⟩ := blkE hres1
    have ht : TrIs w1 (fun b => w.heap.size + 1 ≤ b) (.mk 4 q 0 0 s [] a) [.int .i64 4, .int .i64 (q : Int), .int .i64 0, .int .i64 0, .string s, .slice none 0 0, .slice ao a.length c] := by
      obtain ⟨css, k1, k2, k3⟩ := (ho.row isElT)
      exact .mk hs (labNone _ _) (k1.mono fun b hb _ => by omega) k2 (fun i hi hi' => TrIs.mono (k3 i hi hi') fun b hb _ => by omega)
    have HF := fin7 (grown_trans (grown_of_below _ hbel) hg1) h1 hrl ht
    have HFF : Hid _ := HF
    have HR : Hid (((Par.encl e [40] [44] [41] 4 E ts).bind fun a r => .ok (Tr.mk 4 q 0 0 s [] a) r) = .ok (Tr.mk 4 q 0 0 s [] a) r) := by show _ = _; rw [show Par.encl e [40] [44] [41] 4 E ts = .ok a r from hr]; rfl
    clear hg1 h1 hres1 HF hr HP hres hbel ho ht
    go_wp2
    refine bodyPost_ret (v := .agg #[.int .i64 4, .int .i64 (q : Int), .int .i64 0, .int .i64 0, .string s, .slice none 0 0, .slice ao a.length c]) (by simp [results, Tryz.results127, go_sem, q0, q1, q2, q3, q4, q5, q6]) rfl ?_
    obtain ⟨f1, f2, f3⟩ := HFF.out
    exact ⟨f1, .inl ⟨_, _, HR.out, _, _, rfl, ⟨_, _, _, _, _, _, _, _, _, _, _, rfl, f3⟩, f2⟩⟩
  · refine ⟨rfl, grown_trans (grown_of_below _ hbel) hg1, .inr ⟨cc, q1, ?_, rfl, _, _, h1⟩⟩
    rw [show Par.encl e [40] [44] [41] 4 E ts = .no cc q1 from hr]; rfl
theorem leafT {w : World} {S : Nat → Prop} (k p n t : Int) {s : ByteArray} (hs : s.size ≤ maxLen) : TrIs w S (.mk k p n t s [] []) [.int .i64 k, .int .i64 p, .int .i64 n, .int .i64 t, .string s, .slice none 0 0, .slice none 0 0] :=
  .mk hs (labNone _ _) (RowV.none _ _ _ _) rfl (fun i hi => by simp at hi)
set_option maxRecDepth 100000 in
set_option maxHeartbeats 4000000 in
theorem namedC {rb e : Nat} {bl pr : Int} {E : List Tok → Res Tr} (hE : ExpC rb e bl pr E) {w : World} {t : Tok} {r : List Tok} {v : Value} (h : Rd w rb e bl pr (t :: r) v) (hk : t.1 = 1) :
    Calls Tryz.prog 83 #[.pointer (some ⟨rb, 0, none⟩)] w (Post w rb e bl pr (Par.namedR e E (t :: r)) (VE w.heap.size)) := by
  have hrl := h.lt
  obtain ⟨w0, hw0⟩ : ∃ w0, w0 = w.alloc (.cells ZE 26) := ⟨_, rfl⟩
  have hbel : Below w.heap.size w w0 := by rw [hw0]; exact (Below.refl _ _).alloc (Nat.le_refl _) _
  have hs0 : w0.heap.size = w.heap.size + 1 := by rw [hw0]; simp
  have hres : w0.heap[w.heap.size]? = some (.cells ZE 26 (0, 0)) := by rw [hw0]; exact heap_at_alloc _ _ _ rfl
  have H0 : Hid (Rd w0 rb e bl pr (t :: r) v) := h.keeps hbel h.lt
  have HNM : Hid (Par.nameR e (t :: r) = .ok (ba t.2.2) r) := by show _ = _; unfold Par.nameR; rw [if_pos (show (nx (t :: r)).1 = 1 from hk)]; rfl
  have HEQ : Hid (Par.namedR e E (t :: r) = if isT [40] r = true then (Par.encl e [40] [44] [41] 4 E r).bind fun a r2 => .ok (Tr.mk 4 t.2.1 0 0 (ba t.2.2) [] a) r2 else .ok (Tr.mk 2 t.2.1 0 0 (ba t.2.2) [] []) r) := rfl
  unfold ZE at hw0
  clear h hk
  go_enter Tryz.func83, Tryz.ntmps83
  go_wp2_with fail
  rw [← hw0]
  clear hw0
  refine (rAt_any H0.out).mono ?_
  rintro x w0' ⟨rfl, hw0'⟩
  have hw0s := hw0'.symm; subst hw0s
  rw [show atP e (t :: r) = t.2.1 from rfl]
  go_wp2_with fail
  refine (rName_any H0.out).mono ?_
  rintro x w1 ⟨hg1, ⟨a, r1, hr, u, v1, rfl, ⟨rfl, hz⟩, h1⟩ | ⟨cc, q, hr, rfl, r1, v1, h1⟩⟩
  · rw [HNM.out] at hr
    cases hr
    have HG1 : Hid (w.grownBy w1 (some rb)) := grown_trans (grown_of_below _ hbel) hg1
    have hz1 := hg1.size
    have hres1 : w1.heap[w.heap.size]? = some (.cells ZE 26 (0, 0)) := (hg1.block _ (by omega) (by simp; omega)).trans hres
    have H1 : Hid (Rd w1 rb e bl pr r v1) := h1
    have HR1 : Hid (w1.heap[w.heap.size]? = some (.cells ZE 26 (0, 0))) := hres1
    clear hg1 h1 hres1 hres
    go_wp2_with fail
    refine (rIs_any _ H1.out).mono ?_
    rintro x w2 ⟨rfl, hb2⟩
    have HG2 : Hid (w.grownBy w2 (some rb)) := grown_below HG1.out hb2
    have hz2 := hb2.size
    have H2 : Hid (Rd w2 rb e bl pr r v1) := H1.out.keeps hb2 H1.out.lt
    have hres2 : w2.heap[w.heap.size]? = some (.cells ZE 26 (0, 0)) := (hb2.block _ (by omega)).trans HR1.out
    clear hb2
    cases hi : isT (⟨#[40]⟩ : ByteArray).data.toList r with
    | true =>
      have HC := callC hE H2.out t.2.1 (ba t.2.2) hz
      have HF1 : Hid (Par.namedR e E (t :: r) = (Par.encl e [40] [44] [41] 4 E r).bind fun a r2 => .ok (Tr.mk 4 t.2.1 0 0 (ba t.2.2) [] a) r2) := by show _ = _; rw [HEQ.out, if_pos hi]
      have HR2 : Hid (w2.heap[w.heap.size]? = some (.cells ZE 26 (0, 0))) := hres2
      clear hres2 hi
      go_wp2_with fail
      refine HC.mono ?_
      rintro x w3 ⟨hg3, ⟨a, r3, hr, u, v3, rfl, ⟨z0, z1, z2, z3, z4, z5, m5, d5, z6, m6, d6, rfl, hx⟩, h3⟩ | ⟨cc, q, hr, rfl, r3, v3, h3⟩⟩
      · have hres3 : w3.heap[w.heap.size]? = some (.cells ZE 26 (0, 0)) := (hg3.block _ (by omega) (by simp; omega)).trans HR2.out
        have hn3 := lt_of_block hres3
        unfold ZE at hres3
        obtain ⟨⟨q0, q1, q2, q3, q4, q5, q6⟩, p0, p1, p2, p3, p4, p5, p6⟩ := blkE hres3
        have HF := fin7 (grown_trans HG2.out hg3) h3 hrl (TrIs.mono hx fun b hb _ => by omega)
        have HFF : Hid _ := HF
        have HR : Hid (Par.namedR e E (t :: r) = .ok a r3) := by show _ = _; rw [HF1.out, hr]
        clear hg3 hx h3 hres3 HF hr HC
        go_wp2
        refine bodyPost_ret (v := .agg #[.int .i64 z0, .int .i64 z1, .int .i64 z2, .int .i64 z3, .string z4, .slice z5 m5 d5, .slice z6 m6 d6]) (by simp [results, Tryz.results83, go_sem, q0, q1, q2, q3, q4, q5, q6]) rfl ?_
        obtain ⟨f1, f2, f3⟩ := HFF.out
        exact ⟨f1, .inl ⟨_, _, HR.out, _, _, rfl, ⟨_, _, _, _, _, _, _, _, _, _, _, rfl, f3⟩, f2⟩⟩
      · exact ⟨rfl, grown_trans HG2.out hg3, .inr ⟨cc, q, by rw [HF1.out, hr], rfl, _, _, h3⟩⟩
    | false =>
      have HR : Hid (Par.namedR e E (t :: r) = .ok (Tr.mk 2 t.2.1 0 0 (ba t.2.2) [] []) r) := by show _ = _; rw [HEQ.out, if_neg (by rw [show isT [40] r = false from hi]; simp)]
      have hn2 := lt_of_block hres2
      unfold ZE at hres2
      obtain ⟨⟨q0, q1, q2, q3, q4, q5, q6⟩, p0, p1, p2, p3, p4, p5, p6⟩ := blkE hres2
      have HF := fin7 HG2.out H2.out hrl (leafT 2 (t.2.1 : Int) 0 0 hz)
      have HFF : Hid _ := HF
      clear hres2 HF hi
      go_wp2
      refine bodyPost_ret (v := .agg #[.int .i64 2, .int .i64 (t.2.1 : Int), .int .i64 0, .int .i64 0, .string (ba t.2.2), .slice none 0 0, .slice none 0 0]) (by simp [results, Tryz.results83, go_sem, q0, q1, q2, q3, q4, q5, q6]) rfl ?_
      obtain ⟨f1, f2, f3⟩ := HFF.out
      exact ⟨f1, .inl ⟨_, _, HR.out, _, _, rfl, ⟨_, _, _, _, _, _, _, _, _, _, _, rfl, f3⟩, f2⟩⟩
  · rw [HNM.out] at hr; cases hr
end Go.Proofs.YtcdeicfegfedfaaGreatDoor

namespace Go.Proofs.YtcdeicfegfedfaaGreatDoor
open Go.RowKit
open Par (Tok Po Tr nx atP isT ba Res)

theorem heap_set7 {w : World} {X : Nat} {a0 a1 a2 a3 a4 a5 a6 u : Value} {e : TypeId} (h : w.heap[X]? = some (.cells #[a0, a1, a2, a3, a4, a5, a6] e (0, 0))) :
    (w.setCell ⟨X, 6, none⟩ u).heap[X]? = some (.cells #[a0, a1, a2, a3, a4, a5, u] e (0, 0)) ∧ (w.setCell ⟨X, 5, none⟩ u).heap[X]? = some (.cells #[a0, a1, a2, a3, a4, u, a6] e (0, 0)) := by
  constructor <;> simp [World.setCell, Array.getElem?_modify, h]
/- One cell of a block of its own is written. -/
theorem Rd.own {w : World} {rb e X k : Nat} {bl pr : Int} {ts : List Tok} {v u : Value} (h : Rd w rb e bl pr ts v) (hX : rb < X) : Rd (w.setCell ⟨X, k, .none⟩ u) rb e bl pr ts v :=
  h.keeps ((Below.refl X w).setCell (Nat.le_refl _) u) hX
set_option maxRecDepth 100000 in
set_option maxHeartbeats 8000000 in
theorem releaseC {rb e : Nat} {bl pr : Int} {E : List Tok → Res Tr} (hE : ExpC rb e bl pr E) {w : World} {t : Tok} {r : List Tok} {v : Value} (h : Rd w rb e bl pr (t :: r) v) (hk : t.2.2 = [114, 101, 108, 101, 97, 115, 101]) :
    Calls Tryz.prog 84 #[.pointer (some ⟨rb, 0, none⟩)] w (Post w rb e bl pr (Par.relR e E (t :: r)) (VE w.heap.size)) := by
  have hrl := h.lt
  obtain ⟨w0, hw0⟩ : ∃ w0, w0 = w.alloc (.cells ZE 26) := ⟨_, rfl⟩
  have hbel : Below w.heap.size w w0 := by rw [hw0]; exact (Below.refl _ _).alloc (Nat.le_refl _) _
  have hs0 : w0.heap.size = w.heap.size + 1 := by rw [hw0]; simp
  have hres : w0.heap[w.heap.size]? = some (.cells ZE 26 (0, 0)) := by rw [hw0]; exact heap_at_alloc _ _ _ rfl
  have H0 : Hid (Rd w0 rb e bl pr (t :: r) v) := h.keeps hbel h.lt
  have HM0 : Hid (Par.must e (⟨#[114, 101, 108, 101, 97, 115, 101]⟩ : ByteArray).data.toList (t :: r) = .ok t.2.1 r) := by
    show _ = _
    unfold Par.must
    rw [if_pos (by show (t.2.2 == _) = true; rw [hk]; rfl)]; rfl
  have HEQ : Hid (Par.relR e E (t :: r) = (Par.must e [40] r).bind fun _ r1 => (E r1).bind fun x r2 => (Par.must e [116, 111] r2).bind fun _ r3 => (Par.labelR e r3).bind fun l r4 => (Par.must e [41] r4).bind fun _ r5 => .ok (Tr.mk 5 t.2.1 0 0 (ba []) l [x]) r5) := rfl
  have HE : Hid (ExpC rb e bl pr E) := hE
  unfold ZE at hw0
  clear h hk hE
  go_enter Tryz.func84, Tryz.ntmps84
  go_wp2_with fail
  rw [← hw0]
  clear hw0
  refine (rMust_any _ (by decide) H0.out).mono ?_
  rintro x w1 ⟨hg1, ⟨a, r1, hr, u, v1, rfl, rfl, h1⟩ | ⟨cc, q, hr, rfl, r1, v1, h1⟩⟩
  · rw [HM0.out] at hr
    cases hr
    have hz1 := hg1.size
    obtain ⟨wa, hwa⟩ : ∃ wa, wa = w1.alloc (.cells #[.int .i64 5, .int .i64 (t.2.1 : Int), .int .i64 0, .int .i64 0, .string ⟨#[]⟩, .slice none 0 0, .slice none 0 0] 26) := ⟨_, rfl⟩
    have hba : Below w1.heap.size w1 wa := by rw [hwa]; exact (Below.refl _ _).alloc (Nat.le_refl _) _
    have hsa : wa.heap.size = w1.heap.size + 1 := by rw [hwa]; simp
    have hxa : Hid (wa.heap[w1.heap.size]? = some (.cells #[.int .i64 5, .int .i64 (t.2.1 : Int), .int .i64 0, .int .i64 0, .string ⟨#[]⟩, .slice none 0 0, .slice none 0 0] 26 (0, 0))) := by show _ = _; rw [hwa]; exact heap_at_alloc _ _ _ rfl
    have hra : Hid (wa.heap[w.heap.size]? = some (.cells ZE 26 (0, 0))) := (hba.block _ (by omega)).trans ((hg1.block _ (by omega) (by simp; omega)).trans hres)
    have Ha : Hid (Rd wa rb e bl pr r v1) := h1.keeps hba h1.lt
    have HGa : Hid (w.grownBy wa (some rb)) := grown_below (grown_trans (grown_of_below _ hbel) hg1) hba
    clear hg1 h1 hba hres hbel
    go_wp2_with fail
    rw [← hwa]
    clear hwa
    refine (rMust_any _ (by decide) Ha.out).mono ?_
    rintro x w2 ⟨hg2, ⟨a2, r2, hr2, u2, v2, rfl, rfl, h2⟩ | ⟨c2, q2, hr2, rfl, r2, v2, h2⟩⟩
    · have HE2 : Hid (Par.relR e E (t :: r) = (E r2).bind fun x r2 => (Par.must e [116, 111] r2).bind fun _ r3 => (Par.labelR e r3).bind fun l r4 => (Par.must e [41] r4).bind fun _ r5 => .ok (Tr.mk 5 t.2.1 0 0 (ba []) l [x]) r5) := by show _ = _; rw [HEQ.out, show Par.must e [40] r = .ok a2 r2 from hr2]; rfl
      have hz2 := hg2.size
      have hx2 : Hid (w2.heap[w1.heap.size]? = _) := (hg2.block _ (by omega) (by simp; omega)).trans hxa.out
      have hr2' : Hid (w2.heap[w.heap.size]? = _) := (hg2.block _ (by omega) (by simp; omega)).trans hra.out
      have HG2 : Hid (w.grownBy w2 (some rb)) := grown_trans HGa.out hg2
      have HC := HE.out w2 r2 v2 h2
      clear hg2 h2 hr2
      go_wp2_with fail
      refine HC.mono ?_
      rintro x w3 ⟨hg3, ⟨a3, r3, hr3, u3, v3, rfl, ⟨z0, z1, z2, z3, z4, z5, m5, d5, z6, m6, d6, rfl, hx3⟩, h3⟩ | ⟨c3, q3, hr3, rfl, r3, v3, h3⟩⟩
      · have HE3 : Hid (Par.relR e E (t :: r) = (Par.must e [116, 111] r3).bind fun _ r3 => (Par.labelR e r3).bind fun l r4 => (Par.must e [41] r4).bind fun _ r5 => .ok (Tr.mk 5 t.2.1 0 0 (ba []) l [a3]) r5) := by show _ = _; rw [HE2.out, hr3]; rfl
        have hz3 := hg3.size
        have hx3b := (hg3.block w1.heap.size (by omega) (by simp; omega)).trans hx2.out
        have hr3b : Hid (w3.heap[w.heap.size]? = _) := (hg3.block _ (by omega) (by simp; omega)).trans hr2'.out
        have HG3 : Hid (w.grownBy w3 (some rb)) := grown_trans HG2.out hg3
        have hXl := lt_of_block hx3b
        obtain ⟨⟨i0, i1, i2, i3, i4, i5, i6⟩, j0, j1, j2, j3, j4, j5, j6⟩ := blkE hx3b
        obtain ⟨wb, hwb⟩ : ∃ wb, wb = (w3.setCell ⟨w1.heap.size, 6, none⟩ (.slice (some ⟨w3.heap.size, 0, none⟩) 1 1)).alloc (.cells #[.int .i64 z0, .int .i64 z1, .int .i64 z2, .int .i64 z3, .string z4, .slice z5 m5 d5, .slice z6 m6 d6] 26) := ⟨_, rfl⟩
        have hkb : w3.grownBy (w3.setCell ⟨w1.heap.size, 6, none⟩ (.slice (some ⟨w3.heap.size, 0, none⟩) 1 1)) (some w1.heap.size) := grown_set (grown_refl _ _) rfl _
        have hsb : wb.heap.size = w3.heap.size + 1 := by rw [hwb]; simp [World.setCell]
        have hbb : Below w1.heap.size w3 wb := by rw [hwb]; exact ((Below.refl w1.heap.size w3).setCell (p := ⟨w1.heap.size, 6, none⟩) (Nat.le_refl _) _).alloc (by simp [World.setCell]; omega) _
        have hxb : Hid (wb.heap[w1.heap.size]? = some (.cells #[.int .i64 5, .int .i64 (t.2.1 : Int), .int .i64 0, .int .i64 0, .string ⟨#[]⟩, .slice none 0 0, .slice (some ⟨w3.heap.size, 0, none⟩) 1 1] 26 (0, 0))) := by show _ = _; rw [hwb]; exact heap_past_alloc (heap_set7 hx3b).1
        have hrb : Hid (wb.heap[w.heap.size]? = some (.cells ZE 26 (0, 0))) := (hbb.block _ (by omega)).trans hr3b.out
        have hTs : TrIs (w3.setCell ⟨w1.heap.size, 6, none⟩ (.slice (some ⟨w3.heap.size, 0, none⟩) 1 1)) (fun b => w.heap.size + 1 ≤ b ∧ b ≠ w1.heap.size) a3 (#[.int .i64 z0, .int .i64 z1, .int .i64 z2, .int .i64 z3, .string z4, .slice z5 m5 d5, .slice z6 m6 d6] : Array Value).toList := (TrIs.mono hx3 fun b hb _ => ⟨by omega, by omega⟩).keeps (Keeps.of_grown hkb fun b hb => by have := hb.2; simp; exact this)
        have hTb : Hid (TrIs wb (fun b => w.heap.size + 1 ≤ b ∧ b ≠ w1.heap.size) a3 (#[.int .i64 z0, .int .i64 z1, .int .i64 z2, .int .i64 z3, .string z4, .slice z5 m5 d5, .slice z6 m6 d6] : Array Value).toList ∧ RowV wb (fun b => w.heap.size + 1 ≤ b ∧ b ≠ w1.heap.size) 7 (.slice (some ⟨w3.heap.size, 0, none⟩) 1 1) [(#[.int .i64 z0, .int .i64 z1, .int .i64 z2, .int .i64 z3, .string z4, .slice z5 m5 d5, .slice z6 m6 d6] : Array Value).toList]) := by
          rw [hwb]
          refine ⟨hTs.keeps (Keeps.of_below ((Below.refl _ _).alloc (Nat.le_refl _) _)), ?_⟩
          have := rowOne hTs (by constructor <;> (simp [World.setCell]; omega)) 26
          simpa [World.setCell] using this
        have Hb : Hid (Rd wb rb e bl pr r3 v3) := h3.keeps hbb (by omega)
        have HGb : Hid (w.grownBy wb (some rb)) := ((Fr.of_grown HG3.out (Nat.le_refl _)).trans (Fr.of_below (hbb.mono (by omega)))).grown
        clear hg3 h3 hr3 hx3 hx3b hkb hbb hTs HC
        go_wp2_with fail
        rw [← hwb]
        clear hwb
        refine (rMust_any _ (by decide) Hb.out).mono ?_
        rintro x w4 ⟨hg4, ⟨a4, r4, hr4, u4, v4, rfl, rfl, h4⟩ | ⟨c4, q4, hr4, rfl, r4, v4, h4⟩⟩
        · have HE4 : Hid (Par.relR e E (t :: r) = (Par.labelR e r4).bind fun l r4 => (Par.must e [41] r4).bind fun _ r5 => .ok (Tr.mk 5 t.2.1 0 0 (ba []) l [a3]) r5) := by show _ = _; rw [HE3.out, show Par.must e [116, 111] r3 = .ok a4 r4 from hr4]; rfl
          have hz4 := hg4.size
          have HL := labelC h4
          have hx4 : Hid (w4.heap[w1.heap.size]? = _) := (hg4.block _ (by omega) (by simp; omega)).trans hxb.out
          have hr4b : Hid (w4.heap[w.heap.size]? = _) := (hg4.block _ (by omega) (by simp; omega)).trans hrb.out
          have HG4 : Hid (w.grownBy w4 (some rb)) := grown_trans HGb.out hg4
          have hT4 : Hid (TrIs w4 (fun b => w.heap.size + 1 ≤ b ∧ b ≠ w1.heap.size) a3 (#[.int .i64 z0, .int .i64 z1, .int .i64 z2, .int .i64 z3, .string z4, .slice z5 m5 d5, .slice z6 m6 d6] : Array Value).toList ∧ RowV w4 (fun b => w.heap.size + 1 ≤ b ∧ b ≠ w1.heap.size) 7 (.slice (some ⟨w3.heap.size, 0, none⟩) 1 1) [(#[.int .i64 z0, .int .i64 z1, .int .i64 z2, .int .i64 z3, .string z4, .slice z5 m5 d5, .slice z6 m6 d6] : Array Value).toList]) := ⟨hTb.out.1.keeps (Keeps.of_grown hg4 fun b hb => by have := hb.1; simp; omega), hTb.out.2.keeps (Keeps.of_grown hg4 fun b hb => by have := hb.1; simp; omega)⟩
          clear hg4 h4 hr4
          go_wp2_with fail
          refine HL.mono ?_
          rintro x w5 ⟨hg5, ⟨l, r5, hr5, u5, v5, rfl, ⟨lo, ln, lc, rfl, hl5⟩, h5⟩ | ⟨c5, q5, hr5, rfl, r5, v5, h5⟩⟩
          · have HE5 : Hid (Par.relR e E (t :: r) = (Par.must e [41] r5).bind fun _ r5 => .ok (Tr.mk 5 t.2.1 0 0 (ba []) l [a3]) r5) := by show _ = _; rw [HE4.out, hr5]; rfl
            have hz5 := hg5.size
            have hx5 := (hg5.block w1.heap.size (by omega) (by simp; omega)).trans hx4.out
            have hr5b : Hid (w5.heap[w.heap.size]? = _) := (hg5.block _ (by omega) (by simp; omega)).trans hr4b.out
            have HG5 : Hid (w.grownBy w5 (some rb)) := grown_trans HG4.out hg5
            have hXl5 := lt_of_block hx5
            obtain ⟨⟨i0', i1', i2', i3', i4', i5', i6'⟩, j0', j1', j2', j3', j4', j5', j6'⟩ := blkE hx5
            obtain ⟨wc, hwc⟩ : ∃ wc, wc = w5.setCell ⟨w1.heap.size, 5, none⟩ (.slice lo ln lc) := ⟨_, rfl⟩
            have hkc : w5.grownBy wc (some w1.heap.size) := by rw [hwc]; exact grown_set (grown_refl _ _) rfl _
            have hbc : Below w1.heap.size w5 wc := by rw [hwc]; exact (Below.refl w1.heap.size w5).setCell (p := ⟨w1.heap.size, 5, none⟩) (Nat.le_refl _) _
            have hzc := hbc.size
            have hxc : Hid (wc.heap[w1.heap.size]? = some (.cells #[.int .i64 5, .int .i64 (t.2.1 : Int), .int .i64 0, .int .i64 0, .string ⟨#[]⟩, .slice lo ln lc, .slice (some ⟨w3.heap.size, 0, none⟩) 1 1] 26 (0, 0))) := by show _ = _; rw [hwc]; exact (heap_set7 hx5).2
            have hrc : Hid (wc.heap[w.heap.size]? = some (.cells ZE 26 (0, 0))) := (hbc.block _ (by omega)).trans hr5b.out
            have k5 : Keeps (fun b => w.heap.size + 1 ≤ b ∧ b ≠ w1.heap.size) w4 w5 := Keeps.of_grown hg5 fun b hb => by have := hb.1; simp; omega
            have kc : Keeps (fun b => w.heap.size + 1 ≤ b ∧ b ≠ w1.heap.size) w5 wc := Keeps.of_grown hkc fun b hb => by have := hb.2; simp; exact this
            have hTc : Hid (TrIs wc (fun b => w.heap.size + 1 ≤ b) (.mk 5 t.2.1 0 0 (ba []) l [a3]) (#[.int .i64 5, .int .i64 (t.2.1 : Int), .int .i64 0, .int .i64 0, .string ⟨#[]⟩, .slice lo ln lc, .slice (some ⟨w3.heap.size, 0, none⟩) 1 1] : Array Value).toList) := by
              have m1 := ((hT4.out.1.keeps k5).keeps kc).mono (S' := fun b => w.heap.size + 1 ≤ b) fun b hb _ => hb.1
              have m2 := ((hT4.out.2.keeps k5).keeps kc).mono (S' := fun b => w.heap.size + 1 ≤ b) fun b hb _ => hb.1
              have m3 : LabV wc (fun b => w.heap.size + 1 ≤ b) (.slice lo ln lc) l := (hl5.keeps (Keeps.of_grown hkc fun b hb => by simp; omega)).mono fun b hb _ => by omega
              refine .mk (by rw [ba_size]; simp [maxLen]) m3 m2 rfl (fun i hi hi' => ?_)
              match i, hi with
              | 0, _ => exact m1
            have Hc : Hid (Rd wc rb e bl pr r5 v5) := h5.keeps hbc (by omega)
            have HGc : Hid (w.grownBy wc (some rb)) := ((Fr.of_grown HG5.out (Nat.le_refl _)).trans (Fr.of_below (hbc.mono (by omega)))).grown
            clear hg5 h5 hr5 hl5 hx5 hkc hbc k5 kc HL
            go_wp2_with fail
            rw [← hwc]
            clear hwc
            refine (rMust_any _ (by decide) Hc.out).mono ?_
            rintro x w6 ⟨hg6, ⟨a6, r6, hr6, u6, v6, rfl, rfl, h6⟩ | ⟨c6, q6', hr6, rfl, r6, v6, h6⟩⟩
            · have HR : Hid (Par.relR e E (t :: r) = .ok (Tr.mk 5 t.2.1 0 0 (ba []) l [a3]) r6) := by show _ = _; rw [HE5.out, show Par.must e [41] r5 = .ok a6 r6 from hr6]; rfl
              have hz6 := hg6.size
              have hx6 := (hg6.block w1.heap.size (by omega) (by simp; omega)).trans hxc.out
              have hr6b := (hg6.block w.heap.size (by omega) (by simp; omega)).trans hrc.out
              have hn6 := lt_of_block hr6b
              unfold ZE at hr6b
              obtain ⟨⟨q0, q1, q2, q3, q4, q5, q6⟩, p0, p1, p2, p3, p4, p5, p6⟩ := blkE hr6b
              obtain ⟨⟨o0, o1, o2, o3, o4, o5, o6⟩, _⟩ := blkE hx6
              have HF := fin7 (grown_trans HGc.out hg6) h6 hrl (hTc.out.keeps (Keeps.of_grown hg6 fun b hb => by simp; omega))
              have HFF : Hid _ := HF
              clear hg6 h6 hr6 hx6 hr6b HF i0 i1 i2 i3 i4 i5 i6 j0 j1 j2 j3 j4 j5 j6 i0' i1' i2' i3' i4' i5' i6' j0' j1' j2' j3' j4' j5' j6'
              go_wp2
              refine bodyPost_ret (v := .agg #[.int .i64 5, .int .i64 (t.2.1 : Int), .int .i64 0, .int .i64 0, .string ⟨#[]⟩, .slice lo ln lc, .slice (some ⟨w3.heap.size, 0, none⟩) 1 1]) (by simp [results, Tryz.results84, go_sem, q0, q1, q2, q3, q4, q5, q6]) rfl ?_
              obtain ⟨f1, f2, f3⟩ := HFF.out
              exact ⟨f1, .inl ⟨_, _, HR.out, _, _, rfl, ⟨_, _, _, _, _, _, _, _, _, _, _, rfl, f3⟩, f2⟩⟩
            · exact ⟨rfl, grown_trans HGc.out hg6, .inr ⟨c6, q6', by rw [HE5.out, show Par.must e [41] r5 = .no c6 q6' from hr6]; rfl, rfl, _, _, h6⟩⟩
          · exact ⟨rfl, grown_trans HG4.out hg5, .inr ⟨c5, q5, by rw [HE4.out, hr5]; rfl, rfl, _, _, h5⟩⟩
        · exact ⟨rfl, grown_trans HGb.out hg4, .inr ⟨c4, q4, by rw [HE3.out, show Par.must e [116, 111] r3 = .no c4 q4 from hr4]; rfl, rfl, _, _, h4⟩⟩
      · exact ⟨rfl, grown_trans HG2.out hg3, .inr ⟨c3, q3, by rw [HE2.out, hr3]; rfl, rfl, _, _, h3⟩⟩
    · exact ⟨rfl, grown_trans HGa.out hg2, .inr ⟨c2, q2, by rw [HEQ.out, show Par.must e [40] r = .no c2 q2 from hr2]; rfl, rfl, _, _, h2⟩⟩
  · rw [HM0.out] at hr; cases hr
end Go.Proofs.YtcdeicfegfedfaaGreatDoor

namespace Go.Proofs.YtcdeicfegfedfaaGreatDoor
open Go.RowKit
open Par (Tok Po Tr nx atP isT ba Res)

set_option maxRecDepth 100000 in
set_option maxHeartbeats 4000000 in
theorem prim_full {rb e : Nat} {bl : Int} : PrimC rb e bl 12 (Par.prim e 0) := by
  intro w ts v h
  have hrl := h.lt
  obtain ⟨w0, hw0⟩ : ∃ w0, w0 = w.alloc (.cells ZE 26) := ⟨_, rfl⟩
  have hbel : Below w.heap.size w w0 := by rw [hw0]; exact (Below.refl _ _).alloc (Nat.le_refl _) _
  have H0 : Hid (Rd w0 rb e bl 12 ts v) := h.keeps hbel h.lt
  have HBE : Hid (Below w.heap.size w w0) := hbel
  unfold ZE at hw0
  clear h hbel
  go_enter_defers Tryz.func52, Tryz.ntmps52
  go_wp2_with fail
  rw [← hw0]
  clear hw0
  refine (rIn_many H0.out).mono ?_
  rintro x w1 ⟨rfl, hb1⟩
  refine ⟨grown_below (grown_of_below _ HBE.out) hb1, .inr ⟨_, _, rfl, rfl, _, _, H0.out.keeps hb1 H0.out.lt⟩⟩
def outD (bx : Nat) : Deferred := { target := .fn (.func 125) #[.pointer (some ⟨bx, 0, none⟩)], args := #[] }
/- The way out by a panic: the step out is made, the panic goes on. -/
theorem door_no {w wz : World} {rb e d bx : Nat} {bl : Int} {r : List Tok} {v : Value} {tm : Array Value} {res : Res Tr} {V : World → Tr → Value → Prop} {c : Int} {q : Nat} (hg : w.grownBy wz (some rb)) (h : Rd wz rb e bl ((d + 1 : Nat) : Int) r v) (hb : wz.heap[bx]? = some (.cells #[.pointer (some ⟨rb, 3, none⟩)] 120 (0, 0))) (hd : d ≤ 12) (hr : res = .no c q) :
    Leaves Tryz.prog Tryz.f52 tm (Post w rb e bl d res V) [outD bx] (.panicking [{ v := stopV c q, recovered := false }]) wz := by
  refine leaves_cons (f := 125) (args := #[.pointer (some ⟨bx, 0, none⟩)]) (by simp) (by simp [go_sem]) ?_
  refine (rOut (.panicking [{ v := stopV c q, recovered := false }]) h hb hd).mono ?_
  rintro x u' w'' ⟨rfl, rfl, rfl, hR⟩
  exact ⟨grown_set hg rfl _, .inr ⟨c, q, hr, rfl, _, _, hR⟩⟩
/- The way out by a return: the result is read behind the step out. -/
theorem door_ok {w wz : World} {rb e d bx : Nat} {bl : Int} {r : List Tok} {v : Value} {tm : Array Value} {res : Res Tr} {t : Tr} {z0 z1 z2 z3 : Int} {z4 : ByteArray} {z5 : Option Addr} {m5 d5 : Nat} {z6 : Option Addr} {m6 d6 : Nat} (hg : w.grownBy wz (some rb)) (hrl : rb < w.heap.size) (h : Rd wz rb e bl ((d + 1 : Nat) : Int) r v) (hb : wz.heap[bx]? = some (.cells #[.pointer (some ⟨rb, 3, none⟩)] 120 (0, 0))) (hd : d ≤ 12) (hr : res = .ok t r)
    (ht2 : tm[2]? = some (.pointer (some ⟨w.heap.size, 0, none⟩))) (hn : wz.heap[w.heap.size]? = some (.cells #[.int .i64 z0, .int .i64 z1, .int .i64 z2, .int .i64 z3, .string z4, .slice z5 m5 d5, .slice z6 m6 d6] 26 (0, 0))) (ht : TrIs wz (fun b => w.heap.size ≤ b) t [.int .i64 z0, .int .i64 z1, .int .i64 z2, .int .i64 z3, .string z4, .slice z5 m5 d5, .slice z6 m6 d6]) :
    Leaves Tryz.prog Tryz.f52 tm (Post w rb e bl d res (VE w.heap.size)) [outD bx] .returning wz := by
  refine leaves_cons (f := 125) (args := #[.pointer (some ⟨bx, 0, none⟩)]) (by simp) (by simp [go_sem]) ?_
  refine (rOut .returning h hb hd).mono ?_
  rintro x u' w'' ⟨rfl, rfl, hw, hR⟩
  have hn' : w''.heap[w.heap.size]? = some (.cells #[.int .i64 z0, .int .i64 z1, .int .i64 z2, .int .i64 z3, .string z4, .slice z5 m5 d5, .slice z6 m6 d6] 26 (0, 0)) := by
    rw [hw, Below.heap_setCell _ _ _ _ (by show w.heap.size ≠ rb; omega)]; exact hn
  obtain ⟨⟨q0, q1, q2, q3, q4, q5, q6⟩, _⟩ := blkE hn'
  refine ⟨.agg #[.int .i64 z0, .int .i64 z1, .int .i64 z2, .int .i64 z3, .string z4, .slice z5 m5 d5, .slice z6 m6 d6], by simp [results, Tryz.results52, go_sem, ht2, q0, q1, q2, q3, q4, q5, q6], by rw [hw]; exact grown_set hg rfl _, .inl ⟨t, r, hr, _, _, rfl, ⟨_, _, _, _, _, _, _, _, _, _, _, rfl, ?_⟩, hR⟩⟩
  exact ht.keeps (by rw [hw]; exact Keeps.of_grown (grown_set (grown_refl _ _) rfl _) fun b hb => by simp; omega)
theorem fin7n {wz : World} {n : Nat} {a0 a1 a2 a3 a4 a5 a6 y0 y1 y2 y3 y4 y5 y6 : Value} {e : TypeId} (h : wz.heap[n]? = some (.cells #[a0, a1, a2, a3, a4, a5, a6] e (0, 0))) :
    (((((((wz.setCell ⟨n, 0, none⟩ y0).setCell ⟨n, 1, none⟩ y1).setCell ⟨n, 2, none⟩ y2).setCell ⟨n, 3, none⟩ y3).setCell ⟨n, 4, none⟩ y4).setCell ⟨n, 5, none⟩ y5).setCell ⟨n, 6, none⟩ y6).heap[n]? = some (.cells #[y0, y1, y2, y3, y4, y5, y6] e (0, 0)) ∧ ∀ b, b ≠ n → (((((((wz.setCell ⟨n, 0, none⟩ y0).setCell ⟨n, 1, none⟩ y1).setCell ⟨n, 2, none⟩ y2).setCell ⟨n, 3, none⟩ y3).setCell ⟨n, 4, none⟩ y4).setCell ⟨n, 5, none⟩ y5).setCell ⟨n, 6, none⟩ y6).heap[b]? = wz.heap[b]? := by
  refine ⟨by simp [World.setCell, Array.getElem?_modify, h], fun b hb => ?_⟩
  iterate 7 rw [Below.heap_setCell _ _ _ _ hb]
/- The result is laid, then the way out. -/
theorem door7 {w wz : World} {rb e d bx : Nat} {bl : Int} {r : List Tok} {v : Value} {tm : Array Value} {res : Res Tr} {t : Tr} {z0 z1 z2 z3 : Int} {z4 : ByteArray} {z5 : Option Addr} {m5 d5 : Nat} {z6 : Option Addr} {m6 d6 : Nat} (hg : w.grownBy wz (some rb)) (hrl : rb < w.heap.size) (h : Rd wz rb e bl ((d + 1 : Nat) : Int) r v) (hb : wz.heap[bx]? = some (.cells #[.pointer (some ⟨rb, 3, none⟩)] 120 (0, 0))) (hbx : bx ≠ w.heap.size) (hd : d ≤ 12) (hr : res = .ok t r)
    (ht2 : tm[2]? = some (.pointer (some ⟨w.heap.size, 0, none⟩))) (hn : wz.heap[w.heap.size]? = some (.cells ZE 26 (0, 0))) (ht : TrIs wz (fun b => w.heap.size + 1 ≤ b) t [.int .i64 z0, .int .i64 z1, .int .i64 z2, .int .i64 z3, .string z4, .slice z5 m5 d5, .slice z6 m6 d6]) :
    Leaves Tryz.prog Tryz.f52 tm (Post w rb e bl d res (VE w.heap.size)) [outD bx] .returning (((((((wz.setCell ⟨w.heap.size, 0, none⟩ (.int .i64 z0)).setCell ⟨w.heap.size, 1, none⟩ (.int .i64 z1)).setCell ⟨w.heap.size, 2, none⟩ (.int .i64 z2)).setCell ⟨w.heap.size, 3, none⟩ (.int .i64 z3)).setCell ⟨w.heap.size, 4, none⟩ (.string z4)).setCell ⟨w.heap.size, 5, none⟩ (.slice z5 m5 d5)).setCell ⟨w.heap.size, 6, none⟩ (.slice z6 m6 d6)) := by
  obtain ⟨f1, f2, f3⟩ := fin7 hg h hrl ht
  unfold ZE at hn
  obtain ⟨n1, n2⟩ := fin7n (y0 := .int .i64 z0) (y1 := .int .i64 z1) (y2 := .int .i64 z2) (y3 := .int .i64 z3) (y4 := .string z4) (y5 := .slice z5 m5 d5) (y6 := .slice z6 m6 d6) hn
  exact door_ok f1 hrl f2 ((n2 bx hbx).trans hb) hd hr ht2 n1 f3
theorem door1 {w w4 : World} {rb e d bx : Nat} {bl : Int} {t : Tok} {r4 : List Tok} {v4 : Value} {tm : Array Value} {res : Res Tr} {a : Tr} {z0 z1 z2 z3 : Int} {z4 : ByteArray} {z5 : Option Addr} {m5 d5 : Nat} {z6 : Option Addr} {m6 d6 : Nat} (hg : w.grownBy w4 (some rb)) (hrl : rb < w.heap.size) (h : Rd w4 rb e bl ((d + 1 : Nat) : Int) r4 v4) (hb : w4.heap[bx]? = some (.cells #[.pointer (some ⟨rb, 3, none⟩)] 120 (0, 0))) (hbx : bx ≠ w.heap.size) (hd : d ≤ 12) (hr : res = .ok (Par.opT t [a]) r4) (ht : t.2.2.length ≤ 4000)
    (ht2 : tm[2]? = some (.pointer (some ⟨w.heap.size, 0, none⟩))) (hn : w4.heap[w.heap.size]? = some (.cells ZE 26 (0, 0))) (hx : TrIs w4 (fun b => w.heap.size + 1 ≤ b) a (#[.int .i64 z0, .int .i64 z1, .int .i64 z2, .int .i64 z3, .string z4, .slice z5 m5 d5, .slice z6 m6 d6] : Array Value).toList) :
    Leaves Tryz.prog Tryz.f52 tm (Post w rb e bl d res (VE w.heap.size)) [outD bx] .returning ((((((((w4.setCell ⟨w.heap.size, 0, none⟩ (.int .i64 3)).setCell ⟨w.heap.size, 1, none⟩ (.int .i64 (t.2.1 : Int))).setCell ⟨w.heap.size, 2, none⟩ (.int .i64 0)).setCell ⟨w.heap.size, 3, none⟩ (.int .i64 0)).setCell ⟨w.heap.size, 4, none⟩ (.string (ba t.2.2))).setCell ⟨w.heap.size, 5, none⟩ (.slice none 0 0)).setCell ⟨w.heap.size, 6, none⟩ (.slice (some ⟨w4.heap.size, 0, none⟩) 1 1)).alloc (.cells #[.int .i64 z0, .int .i64 z1, .int .i64 z2, .int .i64 z3, .string z4, .slice z5 m5 d5, .slice z6 m6 d6] 26)) := by
  obtain ⟨ws, hws⟩ : ∃ ws, ws = (((((((w4.setCell ⟨w.heap.size, 0, none⟩ (.int .i64 3)).setCell ⟨w.heap.size, 1, none⟩ (.int .i64 (t.2.1 : Int))).setCell ⟨w.heap.size, 2, none⟩ (.int .i64 0)).setCell ⟨w.heap.size, 3, none⟩ (.int .i64 0)).setCell ⟨w.heap.size, 4, none⟩ (.string (ba t.2.2))).setCell ⟨w.heap.size, 5, none⟩ (.slice none 0 0)).setCell ⟨w.heap.size, 6, none⟩ (.slice (some ⟨w4.heap.size, 0, none⟩) 1 1)) := ⟨_, rfl⟩
  have hk : w4.grownBy ws (some w.heap.size) := by rw [hws]; exact keptE
  have hsz : ws.heap.size = w4.heap.size := by rw [hws]; simp [World.setCell]
  have hl4 := lt_of_block hn
  unfold ZE at hn
  have hn1 : ws.heap[w.heap.size]? = some (.cells #[.int .i64 3, .int .i64 (t.2.1 : Int), .int .i64 0, .int .i64 0, .string (ba t.2.2), .slice none 0 0, .slice (some ⟨w4.heap.size, 0, none⟩) 1 1] 26 (0, 0)) := by rw [hws]; exact (fin7n hn).1
  rw [← hws]
  have hbs : Below w.heap.size w4 ws := ⟨hk.os, hk.tape, hk.output, hk.size, fun k h => hk.block k (by omega) (by simp; omega)⟩
  have hba : Below ws.heap.size ws (ws.alloc (.cells #[.int .i64 z0, .int .i64 z1, .int .i64 z2, .int .i64 z3, .string z4, .slice z5 m5 d5, .slice z6 m6 d6] 26)) := (Below.refl _ _).alloc (Nat.le_refl _) _
  have hxs : TrIs ws (fun b => w.heap.size ≤ b) a (#[.int .i64 z0, .int .i64 z1, .int .i64 z2, .int .i64 z3, .string z4, .slice z5 m5 d5, .slice z6 m6 d6] : Array Value).toList := (hx.keeps (Keeps.of_grown hk fun b hb => by simp; omega)).mono fun b hb _ => by omega
  have ho := opOne (t := t) ht hxs (by omega) 26
  rw [hsz] at ho
  exact door_ok (grown_below (((Fr.of_grown hg (Nat.le_refl _)).trans (Fr.of_below hbs)).grown) hba) hrl ((h.keeps hbs hrl).keeps hba (by omega)) (heap_past_alloc ((hk.block _ (lt_of_block hb) (by simp; exact hbx)).trans hb)) hd hr ht2 (heap_past_alloc hn1) ho
end Go.Proofs.YtcdeicfegfedfaaGreatDoor
