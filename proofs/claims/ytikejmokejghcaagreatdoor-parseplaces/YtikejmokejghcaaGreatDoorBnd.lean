/- Contract of (*reader).bound, where primary has one. -/
import Derived.Test.YtikejmokejghcaaGreatDoorRlE
import Derived.Test.YtikejmokejghcaaGreatDoorLbl
import Derived.Deep.RegionWith
import Derived.Deep.DeepCutAuto
namespace Go.Proofs.YtikejmokejghcaaGreatDoor
open Go.RowKit
open Par (Tok Po Tr nx atP isT ba Res)

def ZE : Array Value := #[.int .i64 0, .int .i64 0, .int .i64 0, .int .i64 0, .string ⟨#[]⟩, .slice none 0 0, .slice none 0 0]
/- The result's block is laid at the head and filled at the end. -/
theorem fin7 {w wz : World} {rb e : Nat} {bl pr : Int} {r : List Tok} {v : Value} {t : Tr} {y0 y1 y2 y3 y4 y5 y6 : Value} (hg : w.grownBy wz (some rb)) (hr : Rd wz rb e bl pr r v) (hrl : rb < w.heap.size) (ht : TrIs wz (fun b => w.heap.size + 1 ≤ b) t [y0, y1, y2, y3, y4, y5, y6]) :
    w.grownBy (((((((wz.setCell ⟨w.heap.size, 0, none⟩ y0).setCell ⟨w.heap.size, 1, none⟩ y1).setCell ⟨w.heap.size, 2, none⟩ y2).setCell ⟨w.heap.size, 3, none⟩ y3).setCell ⟨w.heap.size, 4, none⟩ y4).setCell ⟨w.heap.size, 5, none⟩ y5).setCell ⟨w.heap.size, 6, none⟩ y6) (some rb) ∧
    Rd (((((((wz.setCell ⟨w.heap.size, 0, none⟩ y0).setCell ⟨w.heap.size, 1, none⟩ y1).setCell ⟨w.heap.size, 2, none⟩ y2).setCell ⟨w.heap.size, 3, none⟩ y3).setCell ⟨w.heap.size, 4, none⟩ y4).setCell ⟨w.heap.size, 5, none⟩ y5).setCell ⟨w.heap.size, 6, none⟩ y6) rb e bl pr r v ∧
    TrIs (((((((wz.setCell ⟨w.heap.size, 0, none⟩ y0).setCell ⟨w.heap.size, 1, none⟩ y1).setCell ⟨w.heap.size, 2, none⟩ y2).setCell ⟨w.heap.size, 3, none⟩ y3).setCell ⟨w.heap.size, 4, none⟩ y4).setCell ⟨w.heap.size, 5, none⟩ y5).setCell ⟨w.heap.size, 6, none⟩ y6) (fun b => w.heap.size ≤ b) t [y0, y1, y2, y3, y4, y5, y6] := by
  obtain ⟨wf, hwf⟩ : ∃ wf, wf = (((((((wz.setCell ⟨w.heap.size, 0, none⟩ y0).setCell ⟨w.heap.size, 1, none⟩ y1).setCell ⟨w.heap.size, 2, none⟩ y2).setCell ⟨w.heap.size, 3, none⟩ y3).setCell ⟨w.heap.size, 4, none⟩ y4).setCell ⟨w.heap.size, 5, none⟩ y5).setCell ⟨w.heap.size, 6, none⟩ y6) := ⟨_, rfl⟩
  have hk : wz.grownBy wf (some w.heap.size) := by rw [hwf]; exact keptE
  rw [← hwf]
  have hb : Below w.heap.size wz wf := ⟨hk.os, hk.tape, hk.output, hk.size, fun k h => hk.block k (by have := hg.size; omega) (by simp; omega)⟩
  refine ⟨((Fr.of_grown hg (Nat.le_refl _)).trans (Fr.of_below hb)).grown, hr.keeps hb (by omega), (ht.keeps (Keeps.of_grown hk fun b hb => by simp; omega)).mono fun b hb _ => by omega⟩
/- A row of two expressions of its own. -/
theorem rowTwo {w : World} {S : Nat → Prop} {x y : Tr} {cx cy : List Value} (hx : TrIs w S x cx) (hy : TrIs w S y cy) (hS : S w.heap.size) (e : TypeId) : RowV (w.alloc (.cells (cx ++ cy).toArray e)) S 7 (.slice (some ⟨w.heap.size, 0, none⟩) 2 2) [cx, cy] :=
  RowV.new rfl (by simp [maxLen]) (by simp) (fun i hi => by
    match i, hi with
    | 0, _ => exact hx.len
    | 1, _ => exact hy.len) hS
theorem rowOne {w : World} {S : Nat → Prop} {x : Tr} {cx : List Value} (hx : TrIs w S x cx) (hS : S w.heap.size) (e : TypeId) : RowV (w.alloc (.cells cx.toArray e)) S 7 (.slice (some ⟨w.heap.size, 0, none⟩) 1 1) [cx] :=
  RowV.new rfl (by simp [maxLen]) (by simp) (fun i hi => by
    match i, hi with
    | 0, _ => exact hx.len) hS
theorem labNone (w : World) (S : Nat → Prop) : LabV w S (.slice none 0 0) [] := ⟨⟨[], rfl, RowV.none _ _ _ _, fun i hi => by simp at hi⟩, fun p hp => by cases hp⟩
theorem opTwo {w : World} {S : Nat → Prop} {t : Tok} {x y : Tr} {cx cy : List Value} (ht : t.2.2.length ≤ 4000) (hx : TrIs w S x cx) (hy : TrIs w S y cy) (hS : S w.heap.size) (e : TypeId) :
    TrIs (w.alloc (.cells (cx ++ cy).toArray e)) S (Par.opT t [x, y]) [.int .i64 3, .int .i64 (t.2.1 : Int), .int .i64 0, .int .i64 0, .string (ba t.2.2), .slice none 0 0, .slice (some ⟨w.heap.size, 0, none⟩) 2 2] := by
  have hk : Keeps S w (w.alloc (.cells (cx ++ cy).toArray e)) := Keeps.of_below ((Below.refl _ _).alloc (Nat.le_refl _) _)
  refine .mk (by rw [ba_size]; unfold maxLen; omega) (labNone _ _) (rowTwo hx hy hS e) rfl (fun i hi hi' => ?_)
  match i, hi with
  | 0, _ => exact hx.keeps hk
  | 1, _ => exact hy.keeps hk
theorem opOne {w : World} {S : Nat → Prop} {t : Tok} {x : Tr} {cx : List Value} (ht : t.2.2.length ≤ 4000) (hx : TrIs w S x cx) (hS : S w.heap.size) (e : TypeId) :
    TrIs (w.alloc (.cells cx.toArray e)) S (Par.opT t [x]) [.int .i64 3, .int .i64 (t.2.1 : Int), .int .i64 0, .int .i64 0, .string (ba t.2.2), .slice none 0 0, .slice (some ⟨w.heap.size, 0, none⟩) 1 1] := by
  have hk : Keeps S w (w.alloc (.cells cx.toArray e)) := Keeps.of_below ((Below.refl _ _).alloc (Nat.le_refl _) _)
  refine .mk (by rw [ba_size]; unfold maxLen; omega) (labNone _ _) (rowOne hx hS e) rfl (fun i hi hi' => ?_)
  match i, hi with
  | 0, _ => exact hx.keeps hk
def PrimC (rb e : Nat) (bl pr : Int) (P : List Tok → Res Tr) : Prop := ∀ (w : World) (ts : List Tok) (v : Value), Rd w rb e bl pr ts v → Calls Tryz.prog 25 #[.pointer (some ⟨rb, 0, none⟩)] w (Post w rb e bl pr (P ts) (VE w.heap.size))
def BndC (rb e : Nat) (bl pr : Int) (P : List Tok → Res Tr) (j : Nat) : Prop := ∀ (w : World) (ts : List Tok) (v : Value), Rd w rb e bl pr ts v → Calls Tryz.prog 19 #[.pointer (some ⟨rb, 0, none⟩), .int .i64 ((6 - j : Nat) : Int)] w (Post w rb e bl pr (Par.bd P j ts) (VE w.heap.size))
set_option maxRecDepth 100000 in
set_option maxHeartbeats 4000000 in
theorem bnd_zero {rb e : Nat} {bl pr : Int} {P : List Tok → Res Tr} (hP : PrimC rb e bl pr P) : BndC rb e bl pr P 0 := by
  intro w ts v h
  have hrl := h.lt
  obtain ⟨w0, hw0⟩ : ∃ w0, w0 = w.alloc (.cells ZE 26) := ⟨_, rfl⟩
  have hbel : Below w.heap.size w w0 := by rw [hw0]; exact (Below.refl _ _).alloc (Nat.le_refl _) _
  have hs0 : w0.heap.size = w.heap.size + 1 := by rw [hw0]; simp
  have hres : w0.heap[w.heap.size]? = some (.cells ZE 26 (0, 0)) := by rw [hw0]; exact heap_at_alloc _ _ _ rfl
  have HP := hP w0 ts v (h.keeps hbel h.lt)
  unfold ZE at hw0
  clear h hP
  go_enter Tryz.func19, Tryz.ntmps19
  go_wp2_with fail
  rw [← hw0]
  refine HP.mono ?_
  rintro x w1 ⟨hg1, ⟨a, r, hr, u, v1, rfl, ⟨z0, z1, z2, z3, z4, z5, m5, d5, z6, m6, d6, rfl, hx⟩, h1⟩ | ⟨cc, q, hr, rfl, r, v1, h1⟩⟩
  · have hres1 : w1.heap[w.heap.size]? = some (.cells ZE 26 (0, 0)) := (hg1.block _ (by omega) (by simp; omega)).trans hres
    have hn1 := lt_of_block hres1
    unfold ZE at hres1
    obtain ⟨⟨q0, q1, q2, q3, q4, q5, q6⟩, p0, p1, p2, p3, p4, p5, p6⟩ := blkE hres1
    have HF := Hid.out (p := _) (show Hid _ from fin7 (grown_trans (grown_of_below _ hbel) hg1) h1 hrl (by rw [hs0] at hx; exact hx))
    have HFF : Hid _ := HF
    have HR : Hid (P ts = .ok a r) := hr
    clear hg1 hx h1 hres1 HF hr HP hres hbel
    go_wp2
    refine bodyPost_ret (v := .agg #[.int .i64 z0, .int .i64 z1, .int .i64 z2, .int .i64 z3, .string z4, .slice z5 m5 d5, .slice z6 m6 d6]) (by simp [results, Tryz.results19, go_sem, q0, q1, q2, q3, q4, q5, q6]) rfl ?_
    obtain ⟨f1, f2, f3⟩ := HFF.out
    exact ⟨f1, .inl ⟨_, _, HR.out, _, _, rfl, ⟨_, _, _, _, _, _, _, _, _, _, _, rfl, f3⟩, f2⟩⟩
  · exact ⟨rfl, grown_trans (grown_of_below _ hbel) hg1, .inr ⟨_, _, hr, rfl, _, _, h1⟩⟩
def leftOf (w : World) (rb : Nat) : Nat := match w.cell? ⟨rb, 0, none⟩ with | some (.slice _ n _) => n | _ => 0
theorem leftOf_of {w : World} {rb e : Nat} {bl pr : Int} {ts : List Tok} {v : Value} (h : Rd w rb e bl pr ts v) : leftOf w rb = ts.length := by
  obtain ⟨ao, b, off, c, hv, _⟩ := h.row
  unfold leftOf
  rw [h.cells.1, hv]
  simp
theorem Rd.drew {w : World} {rb e : Nat} {bl pr : Int} {ts : List Tok} {v : Value} (h : Rd w rb e bl pr ts v) : Rd w.drew rb e bl pr ts v := h.keeps (B := w.heap.size) ⟨rfl, rfl, rfl, Nat.le_refl _, fun _ _ => rfl⟩ h.lt
theorem left_lt {w w' : World} {rb e n : Nat} {bl pr : Int} {ts : List Tok} {v : Value} (h : Rd w' rb e bl pr ts v) (g : leftOf w rb = n + 1) (hl : ts.length ≤ n) : leftOf w' rb < leftOf w rb := by
  rw [leftOf_of h, g]; omega
/- What bound's loop holds: X is the block of x. -/
structure Lp (w wr : World) (rb e X : Nat) (bl pr : Int) (Q : List Tok → Res Tr) (lv : Nat) (all : Res Tr) (y : Tr) (cs : List Value) (ts : List Tok) (v : Value) : Prop where
  rd : Rd wr rb e bl pr ts v
  gr : w.grownBy wr (some rb)
  res : wr.heap[w.heap.size]? = some (.cells ZE 26 (0, 0))
  xb : wr.heap[X]? = some (.cells cs.toArray 26 (0, 0))
  big : w.heap.size < X
  tr : TrIs wr (fun b => w.heap.size + 1 ≤ b ∧ b ≠ X) y cs
  eq : all = Par.loopF Q lv ts.length y ts
theorem loop_no {Q : List Tok → Res Tr} {lv : Nat} {y : Tr} {ts : List Tok} (h : ¬ Par.levF (nx ts).2.2 = lv) : Par.loopF Q lv ts.length y ts = .ok y ts := by
  cases hn : ts.length with
  | zero => rfl
  | succ n => unfold Par.loopF; rw [if_neg h]
theorem loop_yes {Q : List Tok → Res Tr} {lv : Nat} {y : Tr} {t : Tok} {r : List Tok} (h : Par.levF t.2.2 = lv) (hQ : Par.Sfx Q) (hl : 0 < lv) : Par.loopF Q lv (t :: r).length y (t :: r) = (Q r).bind fun z r2 => Par.loopF Q lv r2.length (Par.opT t [y, z]) r2 := by
  show Par.loopF Q lv (r.length + 1) y (t :: r) = _
  conv => lhs; unfold Par.loopF
  rw [if_pos (show Par.levF (nx (t :: r)).2.2 = lv from h)]
  show (Q r).bind (fun z r2 => Par.loopF Q lv r.length (Par.opT t [y, z]) r2) = _
  cases hq : Q r with
  | no c q => rfl
  | ok z r2 => exact Par.loopF_fuel hQ hl _ _ _ _ (hQ _ _ _ hq).length_le (Nat.le_refl _)
theorem lp_next {w wk w4 : World} {rb e X : Nat} {bl pr : Int} {Q : List Tok → Res Tr} {lv : Nat} {all : Res Tr} {y z : Tr} {t : Tok} {r4 : List Tok} {v4 : Value} {z0 z1 z2 z3 : Int} {z4 : ByteArray} {z5 : Option Addr} {m5 d5 : Nat} {z6 : Option Addr} {m6 d6 : Nat} {y0 y1 y2 y3 : Int} {y4 : ByteArray} {y5 : Option Addr} {n5 c5 : Nat} {y6 : Option Addr} {n6 c6 : Nat}
    (HGk : w.grownBy wk (some rb)) (HG4 : wk.drew.grownBy w4 (some rb)) (hx4 : w4.heap[X]? = some (.cells #[.int .i64 z0, .int .i64 z1, .int .i64 z2, .int .i64 z3, .string z4, .slice z5 m5 d5, .slice z6 m6 d6] 26 (0, 0))) (HRk : wk.heap[w.heap.size]? = some (.cells ZE 26 (0, 0))) (HTk : TrIs wk (fun b => w.heap.size + 1 ≤ b ∧ b ≠ X) y [.int .i64 z0, .int .i64 z1, .int .i64 z2, .int .i64 z3, .string z4, .slice z5 m5 d5, .slice z6 m6 d6]) (HX4 : ElT w4 (fun b => wk.drew.heap.size ≤ b) z [.int .i64 y0, .int .i64 y1, .int .i64 y2, .int .i64 y3, .string y4, .slice y5 n5 c5, .slice y6 n6 c6]) (H4 : Rd w4 rb e bl pr r4 v4)
    (hXb : w.heap.size < X) (hXk : X < wk.heap.size) (hrl : rb < w.heap.size) (ht : t.2.2.length ≤ 4000) (heq : all = Par.loopF Q lv r4.length (Par.opT t [y, z]) r4) :
    Lp w ((((((((w4.setCell ⟨X, 0, none⟩ (.int .i64 3)).setCell ⟨X, 1, none⟩ (.int .i64 (t.2.1 : Int))).setCell ⟨X, 2, none⟩ (.int .i64 0)).setCell ⟨X, 3, none⟩ (.int .i64 0)).setCell ⟨X, 4, none⟩ (.string (ba t.2.2))).setCell ⟨X, 5, none⟩ (.slice none 0 0)).setCell ⟨X, 6, none⟩ (.slice (some ⟨w4.heap.size, 0, none⟩) 2 2)).alloc (.cells #[.int .i64 z0, .int .i64 z1, .int .i64 z2, .int .i64 z3, .string z4, .slice z5 m5 d5, .slice z6 m6 d6, .int .i64 y0, .int .i64 y1, .int .i64 y2, .int .i64 y3, .string y4, .slice y5 n5 c5, .slice y6 n6 c6] 26)) rb e X bl pr Q lv all (Par.opT t [y, z]) [.int .i64 3, .int .i64 (t.2.1 : Int), .int .i64 0, .int .i64 0, .string (ba t.2.2), .slice none 0 0, .slice (some ⟨w4.heap.size, 0, none⟩) 2 2] r4 v4 := by
  obtain ⟨ws, hws⟩ : ∃ ws, ws = (((((((w4.setCell ⟨X, 0, none⟩ (.int .i64 3)).setCell ⟨X, 1, none⟩ (.int .i64 (t.2.1 : Int))).setCell ⟨X, 2, none⟩ (.int .i64 0)).setCell ⟨X, 3, none⟩ (.int .i64 0)).setCell ⟨X, 4, none⟩ (.string (ba t.2.2))).setCell ⟨X, 5, none⟩ (.slice none 0 0)).setCell ⟨X, 6, none⟩ (.slice (some ⟨w4.heap.size, 0, none⟩) 2 2)) := ⟨_, rfl⟩
  have hk : w4.grownBy ws (some X) := by rw [hws]; exact keptE
  have hsz : ws.heap.size = w4.heap.size := by rw [hws]; simp [World.setCell]
  have hwx : ws.heap[X]? = some (.cells ([.int .i64 3, .int .i64 (t.2.1 : Int), .int .i64 0, .int .i64 0, .string (ba t.2.2), .slice none 0 0, .slice (some ⟨w4.heap.size, 0, none⟩) 2 2] : List Value).toArray 26 (0, 0)) := by rw [hws]; simp [World.setCell, Array.getElem?_modify, hx4]
  rw [← hws]
  have hz4 : wk.heap.size ≤ w4.heap.size := HG4.size
  have hbs : Below w.heap.size w4 ws := ⟨hk.os, hk.tape, hk.output, hk.size, fun k h => hk.block k (by omega) (by simp; omega)⟩
  have hba : Below ws.heap.size ws (ws.alloc (.cells #[.int .i64 z0, .int .i64 z1, .int .i64 z2, .int .i64 z3, .string z4, .slice z5 m5 d5, .slice z6 m6 d6, .int .i64 y0, .int .i64 y1, .int .i64 y2, .int .i64 y3, .string y4, .slice y5 n5 c5, .slice y6 n6 c6] 26)) := (Below.refl _ _).alloc (Nat.le_refl _) _
  have hy : TrIs ws (fun b => w.heap.size + 1 ≤ b ∧ b ≠ X) y [.int .i64 z0, .int .i64 z1, .int .i64 z2, .int .i64 z3, .string z4, .slice z5 m5 d5, .slice z6 m6 d6] := (HTk.keeps (w' := w4) ⟨HG4.size, fun b hb hl => HG4.block b hl (by have := hb.1; simp; omega)⟩).keeps (Keeps.of_grown hk fun b hb => by have := hb.2; simp; exact this)
  have hz : TrIs ws (fun b => w.heap.size + 1 ≤ b ∧ b ≠ X) z [.int .i64 y0, .int .i64 y1, .int .i64 y2, .int .i64 y3, .string y4, .slice y5 n5 c5, .slice y6 n6 c6] := (TrIs.mono HX4 fun b (hb : wk.heap.size ≤ b) _ => ⟨by omega, by omega⟩).keeps (Keeps.of_grown hk fun b hb => by have := hb.2; simp; exact this)
  have ho := opTwo (t := t) ht hy hz (by constructor <;> omega) 26
  refine ⟨(H4.keeps hbs hrl).keeps hba (by omega), grown_below (((Fr.of_grown (grown_trans (grown_drew HGk) HG4) (Nat.le_refl _)).trans (Fr.of_below hbs)).grown) hba, ?_, (hba.block _ (by omega)).trans hwx, hXb, ?_, heq⟩
  · rw [hba.block _ (by omega), hk.block _ (by omega) (by simp; omega), HG4.block _ (show w.heap.size < wk.heap.size by omega) (by simp; omega)]; exact HRk
  · rw [hsz] at ho; exact ho
end Go.Proofs.YtikejmokejghcaaGreatDoor
