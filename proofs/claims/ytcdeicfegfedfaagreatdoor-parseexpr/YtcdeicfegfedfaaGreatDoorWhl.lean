/- parse.whole at expressions: a whole text is read as in plain words. -/
import Derived.Test.YtcdeicfegfedfaaGreatDoorGaBnd
import Derived.Test.YtcdeicfegfedfaaGreatDoorGaRec
import Derived.Test.YtcdeicfegfedfaaGreatDoorGaScan
import Derived.Test.YtcdeicfegfedfaaGreatDoorGaPar
import Derived.BigQuiet
namespace Go.Proofs.YtcdeicfegfedfaaGreatDoor
open Go.RowKit
open Par (Tok Po Tr nx atP isT ba Res)

theorem cells_flat (l : List Tok) : Lex.cellsOf l = (l.map tokC).flatten := by
  unfold Lex.cellsOf tokC ba
  rw [List.flatMap_def]
theorem good_of {l : List UInt8} {t : Tok} (h : Lex.From l t) (hl : l.length ≤ 4000) : Good t := by
  obtain ⟨h1, h2, h3, h4⟩ := h
  refine ⟨by omega, by omega, fun hk => ?_⟩
  rw [hk] at h3
  obtain ⟨n1, m, n2, n3⟩ := Par.num_tok h3
  refine ⟨by omega, ?_⟩
  simp [Par.numV, n2]
theorem rd_new {w : World} {B : Nat} (hlv : LevAt w w.heap.size) {l : List UInt8} {ts : List Tok} {q : Nat} {v : Value} (hown : w.ownsRow B 80 3 v ts.length (Lex.cellsOf ts)) (hs : Lex.scanAll l = (ts, 0, q)) :
    Rd (w.alloc (.cells #[v, .int .i64 (l.length : Int), .int .i64 0, .int .i64 0] 65)) w.heap.size l.length 0 0 ts v := by
  obtain ⟨h1, h2, h3⟩ := Lex.all_from hs
  rw [cells_flat] at hown
  have hr : RowV w (fun b => b < w.heap.size) 3 v (ts.map tokC) := (RowV.of_own (S := fun _ => True) hown (by simp) (fun i hi => by simp [tokC]) (fun _ _ => trivial)).mono fun b _ h => h
  exact ⟨heap_at_alloc _ _ _ rfl, hr.keeps ⟨by simp, fun b hb _ => Below.heap_alloc _ _ b hb⟩, h2, fun t ht => good_of (h1 t ht) h3, hlv.keeps (by simp) fun b hb => Below.heap_alloc _ _ b hb⟩
def catchD (fb : Nat) : Deferred := { target := .fn (.func 28) #[.pointer (some ⟨fb, 0, none⟩)], args := #[] }
def WPost (w : World) (res : Res Tr) (x : Ending) (w' : World) : Prop :=
  Below w.heap.size w w' ∧ ((∃ t, res = .ok t [] ∧ ∃ (z0 z1 z2 z3 : Int) (z4 : ByteArray) (z5 : Option Addr) (m5 d5 : Nat) (z6 : Option Addr) (m6 d6 : Nat), x = .returned (.tuple #[.agg #[.int .i64 z0, .int .i64 z1, .int .i64 z2, .int .i64 z3, .string z4, .slice z5 m5 d5, .slice z6 m6 d6], .agg #[.int .i64 0, .int .i64 0]]) ∧ TrIs w' (fun b => w.heap.size ≤ b) t [.int .i64 z0, .int .i64 z1, .int .i64 z2, .int .i64 z3, .string z4, .slice z5 m5 d5, .slice z6 m6 d6]) ∨
    (∃ c q, res = .no c q ∧ x = .returned (.tuple #[.agg ZE, .agg #[.int .i64 c, .int .i64 ((q : Nat) : Int)]])))
theorem wdoor_no {w wz : World} {tm : Array Value} {res : Res Tr} {c y0 y1 : Int} {q : Nat} (hb : Below w.heap.size w wz) (hz : wz.heap[w.heap.size]? = some (.cells ZE 26 (0, 0))) (hf : wz.heap[w.heap.size + 1]? = some (.cells #[.int .i64 y0, .int .i64 y1] 29 (0, 0)))
    (h4 : tm[4]? = some (.pointer (some ⟨w.heap.size, 0, none⟩))) (h5 : tm[5]? = some (.pointer (some ⟨w.heap.size + 1, 0, none⟩))) (hr : res = .no c q) :
    Leaves Tryz.prog Tryz.f12 tm (WPost w res) [catchD (w.heap.size + 1)] (.panicking [{ v := stopV c q, recovered := false }]) wz := by
  refine leaves_cons (f := 28) (args := #[.pointer (some ⟨w.heap.size + 1, 0, none⟩)]) (by simp) (by simp [go_sem]) ?_
  refine (catch_stop (w.heap.size + 1) c q wz hf).mono ?_
  rintro x u' w'' ⟨rfl, rfl, hn, hg⟩
  have hz' : w''.heap[w.heap.size]? = some (.cells ZE 26 (0, 0)) := (hg.block _ (lt_of_block hz) (by simp)).trans hz
  unfold ZE at hz'
  obtain ⟨⟨q0, q1, q2, q3, q4, q5, q6⟩, _⟩ := blkE hz'
  have e0 : w''.cell? ⟨w.heap.size + 1, 0, none⟩ = some (.int .i64 c) := by simp [World.cell?, hn]
  have e1 : w''.cell? ⟨w.heap.size + 1, 1, none⟩ = some (.int .i64 (q : Int)) := by simp [World.cell?, hn]
  refine ⟨.tuple #[.agg ZE, .agg #[.int .i64 c, .int .i64 (q : Int)]], by simp [results, Tryz.results12, go_sem, h4, h5, q0, q1, q2, q3, q4, q5, q6, e0, e1, ZE], ⟨hg.os.trans hb.os, hg.tape.trans hb.tape, hg.output.trans hb.output, Nat.le_trans hb.size hg.size, fun k hk => (hg.block k (by have := hb.size; omega) (by simp; omega)).trans (hb.block k hk)⟩, .inr ⟨c, q, hr, rfl⟩⟩
theorem wdoor_ok {w wz : World} {tm : Array Value} {res : Res Tr} {t : Tr} {z0 z1 z2 z3 : Int} {z4 : ByteArray} {z5 : Option Addr} {m5 d5 : Nat} {z6 : Option Addr} {m6 d6 : Nat} (hb : Below w.heap.size w wz) (hz : wz.heap[w.heap.size]? = some (.cells #[.int .i64 z0, .int .i64 z1, .int .i64 z2, .int .i64 z3, .string z4, .slice z5 m5 d5, .slice z6 m6 d6] 26 (0, 0))) (hf : wz.heap[w.heap.size + 1]? = some (.cells #[.int .i64 0, .int .i64 0] 29 (0, 0)))
    (h4 : tm[4]? = some (.pointer (some ⟨w.heap.size, 0, none⟩))) (h5 : tm[5]? = some (.pointer (some ⟨w.heap.size + 1, 0, none⟩))) (hr : res = .ok t []) (ht : TrIs wz (fun b => w.heap.size ≤ b) t [.int .i64 z0, .int .i64 z1, .int .i64 z2, .int .i64 z3, .string z4, .slice z5 m5 d5, .slice z6 m6 d6]) :
    Leaves Tryz.prog Tryz.f12 tm (WPost w res) [catchD (w.heap.size + 1)] .returning wz := by
  refine leaves_cons (f := 28) (args := #[.pointer (some ⟨w.heap.size + 1, 0, none⟩)]) (by simp) (by simp [go_sem]) ?_
  refine (catch_idle ⟨w.heap.size + 1, 0, none⟩ wz).mono ?_
  rintro x u' w'' ⟨rfl, rfl, hw⟩
  subst hw
  obtain ⟨⟨q0, q1, q2, q3, q4, q5, q6⟩, _⟩ := blkE hz
  have e0 : w''.cell? ⟨w.heap.size + 1, 0, none⟩ = some (.int .i64 0) := by simp [World.cell?, hf]
  have e1 : w''.cell? ⟨w.heap.size + 1, 1, none⟩ = some (.int .i64 0) := by simp [World.cell?, hf]
  exact ⟨.tuple #[.agg #[.int .i64 z0, .int .i64 z1, .int .i64 z2, .int .i64 z3, .string z4, .slice z5 m5 d5, .slice z6 m6 d6], .agg #[.int .i64 0, .int .i64 0]], by simp [results, Tryz.results12, go_sem, h4, h5, q0, q1, q2, q3, q4, q5, q6, e0, e1], hb, .inl ⟨t, hr, _, _, _, _, _, _, _, _, _, _, _, rfl, ht⟩⟩
theorem wdoor_scan {w wz : World} {tm : Array Value} {res : Res Tr} {c : Int} {q : Nat} (hb : Below w.heap.size w wz) (hz : wz.heap[w.heap.size]? = some (.cells ZE 26 (0, 0))) (hf : wz.heap[w.heap.size + 1]? = some (.cells #[.int .i64 c, .int .i64 (q : Int)] 29 (0, 0)))
    (h4 : tm[4]? = some (.pointer (some ⟨w.heap.size, 0, none⟩))) (h5 : tm[5]? = some (.pointer (some ⟨w.heap.size + 1, 0, none⟩))) (hr : res = .no c q) :
    Leaves Tryz.prog Tryz.f12 tm (WPost w res) [] .returning wz := by
  unfold ZE at hz
  obtain ⟨⟨q0, q1, q2, q3, q4, q5, q6⟩, _⟩ := blkE hz
  have e0 : wz.cell? ⟨w.heap.size + 1, 0, none⟩ = some (.int .i64 c) := by simp [World.cell?, hf]
  have e1 : wz.cell? ⟨w.heap.size + 1, 1, none⟩ = some (.int .i64 (q : Int)) := by simp [World.cell?, hf]
  exact ⟨.tuple #[.agg ZE, .agg #[.int .i64 c, .int .i64 (q : Int)]], by simp [results, Tryz.results12, go_sem, h4, h5, q0, q1, q2, q3, q4, q5, q6, e0, e1, ZE], hb, .inr ⟨c, q, hr, rfl⟩⟩
theorem wdoor_drew {w wz : World} {tm : Array Value} {res : Res Tr} {c : Int} {q : Nat} (hb : Below w.heap.size w wz) (hz : wz.heap[w.heap.size]? = some (.cells ZE 26 (0, 0))) (hf : wz.heap[w.heap.size + 1]? = some (.cells #[.int .i64 c, .int .i64 (q : Int)] 29 (0, 0)))
    (h4 : tm[4]? = some (.pointer (some ⟨w.heap.size, 0, none⟩))) (h5 : tm[5]? = some (.pointer (some ⟨w.heap.size + 1, 0, none⟩))) (hr : res = .no c q) :
    Leaves Tryz.prog Tryz.f12 tm (WPost w res) [] .returning wz.drew := wdoor_scan (wz := wz.drew) hb.drew hz hf h4 h5 hr
theorem wdoor_alloc {w wz : World} {tm : Array Value} {res : Res Tr} {t : Tr} {z0 z1 z2 z3 : Int} {z4 : ByteArray} {z5 : Option Addr} {m5 d5 : Nat} {z6 : Option Addr} {m6 d6 : Nat} (o : Obj) (hb : Below w.heap.size w wz) (hz : wz.heap[w.heap.size]? = some (.cells #[.int .i64 z0, .int .i64 z1, .int .i64 z2, .int .i64 z3, .string z4, .slice z5 m5 d5, .slice z6 m6 d6] 26 (0, 0))) (hf : wz.heap[w.heap.size + 1]? = some (.cells #[.int .i64 0, .int .i64 0] 29 (0, 0)))
    (h4 : tm[4]? = some (.pointer (some ⟨w.heap.size, 0, none⟩))) (h5 : tm[5]? = some (.pointer (some ⟨w.heap.size + 1, 0, none⟩))) (hr : res = .ok t []) (ht : TrIs wz (fun b => w.heap.size ≤ b) t [.int .i64 z0, .int .i64 z1, .int .i64 z2, .int .i64 z3, .string z4, .slice z5 m5 d5, .slice z6 m6 d6]) :
    Leaves Tryz.prog Tryz.f12 tm (WPost w res) [catchD (w.heap.size + 1)] .returning (wz.alloc o) :=
  wdoor_ok (wz := wz.alloc o) (hb.alloc hb.size _) (heap_past_alloc hz) (heap_past_alloc hf) h4 h5 hr (ht.keeps (Keeps.of_below ((Below.refl _ _).alloc (Nat.le_refl _) _)))
theorem fin9 {w wz : World} {n : Nat} {y0 y1 : Int} {x0 x1 x2 x3 x4 x5 x6 : Value} {e e' : TypeId} (hz : wz.heap[n]? = some (.cells #[x0, x1, x2, x3, x4, x5, x6] e (0, 0))) (hf : wz.heap[n + 1]? = some (.cells #[.int .i64 y0, .int .i64 y1] e' (0, 0))) {a0 a1 a2 a3 a4 a5 a6 b0 b1 : Value} (hB : Below n w wz) :
    Below n w (((((((((wz.setCell ⟨n, 0, none⟩ a0).setCell ⟨n, 1, none⟩ a1).setCell ⟨n, 2, none⟩ a2).setCell ⟨n, 3, none⟩ a3).setCell ⟨n, 4, none⟩ a4).setCell ⟨n, 5, none⟩ a5).setCell ⟨n, 6, none⟩ a6).setCell ⟨n + 1, 0, none⟩ b0).setCell ⟨n + 1, 1, none⟩ b1) ∧
    (((((((((wz.setCell ⟨n, 0, none⟩ a0).setCell ⟨n, 1, none⟩ a1).setCell ⟨n, 2, none⟩ a2).setCell ⟨n, 3, none⟩ a3).setCell ⟨n, 4, none⟩ a4).setCell ⟨n, 5, none⟩ a5).setCell ⟨n, 6, none⟩ a6).setCell ⟨n + 1, 0, none⟩ b0).setCell ⟨n + 1, 1, none⟩ b1).heap[n]? = some (.cells #[a0, a1, a2, a3, a4, a5, a6] e (0, 0)) ∧
    (((((((((wz.setCell ⟨n, 0, none⟩ a0).setCell ⟨n, 1, none⟩ a1).setCell ⟨n, 2, none⟩ a2).setCell ⟨n, 3, none⟩ a3).setCell ⟨n, 4, none⟩ a4).setCell ⟨n, 5, none⟩ a5).setCell ⟨n, 6, none⟩ a6).setCell ⟨n + 1, 0, none⟩ b0).setCell ⟨n + 1, 1, none⟩ b1).heap[n + 1]? = some (.cells #[b0, b1] e' (0, 0)) ∧
    ∀ b, b ≠ n → b ≠ n + 1 → (((((((((wz.setCell ⟨n, 0, none⟩ a0).setCell ⟨n, 1, none⟩ a1).setCell ⟨n, 2, none⟩ a2).setCell ⟨n, 3, none⟩ a3).setCell ⟨n, 4, none⟩ a4).setCell ⟨n, 5, none⟩ a5).setCell ⟨n, 6, none⟩ a6).setCell ⟨n + 1, 0, none⟩ b0).setCell ⟨n + 1, 1, none⟩ b1).heap[b]? = wz.heap[b]? := by
  refine ⟨?_, by simp [World.setCell, Array.getElem?_modify, hz], by simp [World.setCell, Array.getElem?_modify, hf], fun b h1 h2 => ?_⟩
  · iterate 9 refine Below.setCell ?_ (by simp) _
    exact hB
  · iterate 2 rw [Below.heap_setCell _ _ _ _ h2]
    iterate 7 rw [Below.heap_setCell _ _ _ _ h1]
set_option maxRecDepth 100000 in
set_option maxHeartbeats 8000000 in
theorem wholeC (hE : ∀ rb e, ExpC rb e 0 0 (Par.exprR e 12)) (s : ByteArray) (w : World) (hs : s.size ≤ maxLen) (hl : LevAt w w.heap.size) :
    Calls Tryz.prog 12 #[.string s, .func (.func 13) #[] #[]] w (WPost w (Par.readE s.data.toList)) := by
  have hmf : ∀ (fn : Fn) (first cap : Array Value) (w : World), (Instr.makeFunc fn first cap).run Tryz.prog w = .ok (.func fn first cap) w := fun _ _ _ _ => rfl
  obtain ⟨w0, hw0⟩ : ∃ w0, w0 = (w.alloc (.cells ZE 26)).alloc (.cells #[.int .i64 0, .int .i64 0] 29) := ⟨_, rfl⟩
  have hbel : Below w.heap.size w w0 := by rw [hw0]; exact ((Below.refl _ _).alloc (Nat.le_refl _) _).alloc (by simp) _
  have hs0 : w0.heap.size = w.heap.size + 2 := by rw [hw0]; simp
  have hres : w0.heap[w.heap.size]? = some (.cells ZE 26 (0, 0)) := by rw [hw0]; exact heap_past_alloc (heap_at_alloc _ _ _ rfl)
  have hfau : w0.heap[w.heap.size + 1]? = some (.cells #[.int .i64 0, .int .i64 0] 29 (0, 0)) := by rw [hw0]; exact heap_at_alloc _ _ _ (by simp)
  have HSC := scan_any s w0 hs
  have HE : Hid (∀ rb e, ExpC rb e 0 0 (Par.exprR e 12)) := hE
  have HL : Hid (LevAt w w.heap.size) := hl
  have HB : Hid (Below w.heap.size w w0) := hbel
  have HR : Hid (w0.heap[w.heap.size]? = some (.cells ZE 26 (0, 0)) ∧ w0.heap[w.heap.size + 1]? = some (.cells #[.int .i64 0, .int .i64 0] 29 (0, 0))) := ⟨hres, hfau⟩
  unfold ZE at hw0
  clear hE hl hbel hres hfau
  go_enter_defers Tryz.func12, Tryz.ntmps12
  go_wp2_with fail
  rw [← hw0]
  clear hw0
  refine HSC.mono ?_
  rintro e w1 ⟨v, l, c, q, rfl, hsc, hown, hb1⟩
  obtain ⟨ao, cap, rfl⟩ := slice_of hown
  have hz1 := hb1.size
  have hr1 : w1.heap[w.heap.size]? = some (.cells ZE 26 (0, 0)) := (hb1.block _ (by omega)).trans HR.out.1
  have hf1 : w1.heap[w.heap.size + 1]? = some (.cells #[.int .i64 0, .int .i64 0] 29 (0, 0)) := (hb1.block _ (by omega)).trans HR.out.2
  have HB1 : Hid (Below w.heap.size w w1) := HB.out.trans (hb1.mono (by omega))
  have HO : Hid (w1.ownsRow w0.heap.size 80 3 (.slice ao l.length cap) l.length (Lex.cellsOf l)) := hown
  have HS : Hid (Lex.scanAll s.data.toList = (l, c, q)) := hsc
  have HR1 : Hid (w1.heap[w.heap.size]? = some (.cells ZE 26 (0, 0)) ∧ w1.heap[w.heap.size + 1]? = some (.cells #[.int .i64 0, .int .i64 0] 29 (0, 0))) := ⟨hr1, hf1⟩
  have l1 := lt_of_block hf1
  unfold ZE at hr1
  obtain ⟨⟨r0, r1, r2, r3, r4, r5, r6⟩, p0, p1, p2, p3, p4, p5, p6⟩ := blkE hr1
  obtain ⟨⟨g0, g1⟩, f0, f1⟩ : (w1.cell? ⟨w.heap.size + 1, 0, none⟩ = some (.int .i64 0) ∧ w1.cell? ⟨w.heap.size + 1, 1, none⟩ = some (.int .i64 0)) ∧ w1.frozen? ⟨w.heap.size + 1, 0, none⟩ = false ∧ w1.frozen? ⟨w.heap.size + 1, 1, none⟩ = false := by refine ⟨⟨?_, ?_⟩, ?_, ?_⟩ <;> simp [World.cell?, World.frozen?, hf1]
  have l2 : w.heap.size < w1.heap.size := by omega
  clear hb1 hown hsc hr1 hf1 HSC HB HR
  by_cases hc : c = 0
  · subst hc
    obtain ⟨w1', hw1'⟩ : ∃ w1', w1' = (w1.setCell ⟨w.heap.size + 1, 0, none⟩ (.int .i64 0)).setCell ⟨w.heap.size + 1, 1, none⟩ (.int .i64 (q : Int)) := ⟨_, rfl⟩
    have hz1' : w1'.heap.size = w1.heap.size := by rw [hw1']; simp [World.setCell]
    have hb1' : Below w.heap.size w w1' := by rw [hw1']; exact (HB1.out.setCell (by simp) _).setCell (by simp) _
    have hown' : w1'.ownsRow w0.heap.size 80 3 (.slice ao l.length cap) l.length (Lex.cellsOf l) := by rw [hw1']; exact ownsRow_setCell_below (ownsRow_setCell_below HO.out (by show w.heap.size + 1 < _; omega) _) (by show w.heap.size + 1 < _; omega) _
    have hlev : LevAt w1' w1'.heap.size := (HL.out.keeps hb1'.size fun b hb => hb1'.block b hb).mono (by omega)
    have hrd := rd_new hlev hown' HS.out
    rw [Lex.len_of] at hrd
    have hzz : w1'.heap[w.heap.size]? = some (.cells ZE 26 (0, 0)) := by rw [hw1']; exact heap_past_set (heap_past_set HR1.out.1 (by simp)) (by simp)
    have hff : w1'.heap[w.heap.size + 1]? = some (.cells #[.int .i64 0, .int .i64 (q : Int)] 29 (0, 0)) := by rw [hw1']; simp [World.setCell, Array.getElem?_modify, HR1.out.2]
    obtain ⟨wr, hwr⟩ : ∃ wr, wr = w1'.alloc (.cells #[.slice ao l.length cap, .int .i64 (s.size : Int), .int .i64 0, .int .i64 0] 65) := ⟨_, rfl⟩
    rw [← hwr] at hrd
    have HBR : Hid (Below w.heap.size w wr) := by rw [hwr]; exact hb1'.alloc (by omega) _
    have HZR : Hid (wr.heap[w.heap.size]? = some (.cells ZE 26 (0, 0)) ∧ wr.heap[w.heap.size + 1]? = some (.cells #[.int .i64 0, .int .i64 (q : Int)] 29 (0, 0))) := by rw [hwr]; exact ⟨heap_past_alloc hzz, heap_past_alloc hff⟩
    have HRD : Hid (Rd wr w1.heap.size s.size 0 0 l (.slice ao l.length cap)) := by rw [← hz1']; exact hrd
    have HRE : Hid (Par.readE s.data.toList = (Par.exprR s.size 12 l).bind fun a r => Par.restR s.size a r) := by
      have := Par.whole_read (R := fun e => Par.exprR e 12) HS.out
      rw [Lex.len_of] at this
      exact this
    rw [hw1'] at hwr
    clear hz1' hb1' hown' hlev hrd hzz hff hw1' r0 r1 r2 r3 r4 r5 r6 p0 p1 p2 p3 p4 p5 p6
    go_wp2_with fail
    rw [← hwr]
    clear hwr g0 g1 f0 f1
    refine (HE.out _ _ wr _ _ HRD.out).mono ?_
    rintro x w2 ⟨hg2, ⟨a, r, hr, u, v', rfl, ⟨z0, z1, z2, z3, z4, z5, m5, d5, z6, m6, d6, rfl, hx⟩, h2⟩ | ⟨cc, qq, hr, rfl, r, v', h2⟩⟩
    · have hb2 : Below w.heap.size w w2 := ⟨hg2.os.trans HBR.out.os, hg2.tape.trans HBR.out.tape, hg2.output.trans HBR.out.output, Nat.le_trans HBR.out.size hg2.size, fun k hk => (hg2.block k (by have := HBR.out.size; omega) (by simp; omega)).trans (HBR.out.block k hk)⟩
      have hz2 : w2.heap[w.heap.size]? = some (.cells ZE 26 (0, 0)) := (hg2.block _ (lt_of_block HZR.out.1) (by simp; omega)).trans HZR.out.1
      have hf2 : w2.heap[w.heap.size + 1]? = some (.cells #[.int .i64 0, .int .i64 (q : Int)] 29 (0, 0)) := (hg2.block _ (lt_of_block HZR.out.2) (by simp; omega)).trans HZR.out.2
      have ll := lt_of_block hf2
      have lz : w.heap.size < w2.heap.size := by omega
      have lrw := h2.lt
      have HB2 : Hid (Below w.heap.size w w2) := hb2
      have H2 : Hid (Rd w2 w1.heap.size s.size 0 0 r v') := h2
      have HZ2 : Hid (w2.heap[w.heap.size]? = some (.cells ZE 26 (0, 0)) ∧ w2.heap[w.heap.size + 1]? = some (.cells #[.int .i64 0, .int .i64 (q : Int)] 29 (0, 0))) := ⟨hz2, hf2⟩
      have HT : Hid (TrIs w2 (fun b => wr.heap.size ≤ b) a [.int .i64 z0, .int .i64 z1, .int .i64 z2, .int .i64 z3, .string z4, .slice z5 m5 d5, .slice z6 m6 d6]) := hx
      have HRR : Hid (Par.readE s.data.toList = Par.restR s.size a r) := by show _ = _; rw [HRE.out, hr]; rfl
      have hwz : w.heap.size + 2 ≤ wr.heap.size := by have := lt_of_block HZR.out.2; omega
      obtain ⟨c0, _⟩ := h2.cells
      unfold ZE at hz2
      obtain ⟨⟨r0, r1, r2, r3, r4, r5, r6⟩, p0, p1, p2, p3, p4, p5, p6⟩ := blkE hz2
      obtain ⟨⟨g0, g1⟩, f0, f1⟩ : (w2.cell? ⟨w.heap.size + 1, 0, none⟩ = some (.int .i64 0) ∧ w2.cell? ⟨w.heap.size + 1, 1, none⟩ = some (.int .i64 (q : Int))) ∧ w2.frozen? ⟨w.heap.size + 1, 0, none⟩ = false ∧ w2.frozen? ⟨w.heap.size + 1, 1, none⟩ = false := by refine ⟨⟨?_, ?_⟩, ?_, ?_⟩ <;> simp [World.cell?, World.frozen?, hf2]
      cases r with
      | nil =>
        obtain ⟨ao', c', rfl⟩ := h2.none
        have HOK : Hid (Par.readE s.data.toList = .ok a []) := by show _ = _; rw [HRR.out]; rfl
        clear hx h2 hr hb2 hz2 hf2 hg2
        go_wp2
        have hz := HZ2.out.1
        unfold ZE at hz
        obtain ⟨k1, k2, k3, k4⟩ := fin9 (a0 := .int .i64 z0) (a1 := .int .i64 z1) (a2 := .int .i64 z2) (a3 := .int .i64 z3) (a4 := .string z4) (a5 := .slice z5 m5 d5) (a6 := .slice z6 m6 d6) (b0 := .int .i64 0) (b1 := .int .i64 0) hz HZ2.out.2 HB2.out
        have ht := (HT.out.keeps ⟨by simp [World.setCell], fun b hb _ => k4 b (by omega) (by omega)⟩).mono (S' := fun b => w.heap.size ≤ b) fun b hb _ => by omega
        show Leaves _ _ _ _ _ _ _
        refine wdoor_alloc _ k1 k2 k3 ?_ ?_ HOK.out ht
        · rfl
        · rfl
      | cons t r =>
        obtain ⟨b', off', c', rfl, _, _, hm', _⟩ := h2.some
        have hlen := h2.len
        simp only [List.length_cons] at hlen
        have HNO : Hid (Par.readE s.data.toList = .no 1 (atP s.size (t :: r))) := by show _ = _; rw [HRR.out]; rfl
        have HG : Hid (∀ o, Rd (w2.alloc o) w1.heap.size s.size 0 0 (t :: r) (.slice (some ⟨b', off', none⟩) (r.length + 1) c')) := fun o => h2.keeps ((Below.refl _ _).alloc (Nat.le_refl _) o) h2.lt
        unfold maxLen at hm'
        clear hx h2 hr hb2 hz2 hf2 hg2
        go_wp2_with fail
        refine (rGive_any _ (HG.out _)).mono ?_
        rintro x w3 ⟨rfl, hw3⟩
        subst hw3
        exact wdoor_no (HB2.out.alloc (by omega) _) (heap_past_alloc HZ2.out.1) (heap_past_alloc HZ2.out.2) rfl rfl HNO.out
    · have hb2 : Below w.heap.size w w2 := ⟨hg2.os.trans HBR.out.os, hg2.tape.trans HBR.out.tape, hg2.output.trans HBR.out.output, Nat.le_trans HBR.out.size hg2.size, fun k hk => (hg2.block k (by have := HBR.out.size; omega) (by simp; omega)).trans (HBR.out.block k hk)⟩
      have hz2 : w2.heap[w.heap.size]? = some (.cells ZE 26 (0, 0)) := (hg2.block _ (lt_of_block HZR.out.1) (by simp; omega)).trans HZR.out.1
      have hf2 : w2.heap[w.heap.size + 1]? = some (.cells #[.int .i64 0, .int .i64 (q : Int)] 29 (0, 0)) := (hg2.block _ (lt_of_block HZR.out.2) (by simp; omega)).trans HZR.out.2
      exact wdoor_no hb2 hz2 hf2 rfl rfl (by rw [HRE.out, hr]; rfl)
  · have bc : (c == 0) = false := by simp [hc]
    have HN : Hid (Par.readE s.data.toList = .no c q) := Par.whole_scan HS.out hc
    clear hc
    go_wp2
    go_region
    all_goals (try go_wp2)
    have hz := HR1.out.1
    unfold ZE at hz
    have hf2 : ((w1.setCell ⟨w.heap.size + 1, 0, none⟩ (.int .i64 c)).setCell ⟨w.heap.size + 1, 1, none⟩ (.int .i64 (q : Int))).heap[w.heap.size + 1]? = some (.cells #[.int .i64 c, .int .i64 (q : Int)] 29 (0, 0)) := by simp [World.setCell, Array.getElem?_modify, HR1.out.2]
    obtain ⟨k1, k2, k3, _⟩ := fin9 (a0 := .int .i64 0) (a1 := .int .i64 0) (a2 := .int .i64 0) (a3 := .int .i64 0) (a4 := .string ⟨#[]⟩) (a5 := .slice none 0 0) (a6 := .slice none 0 0) (b0 := .int .i64 c) (b1 := .int .i64 (q : Int)) (heap_past_set (a := ⟨w.heap.size + 1, 1, none⟩) (u := .int .i64 (q : Int)) (heap_past_set (a := ⟨w.heap.size + 1, 0, none⟩) (u := .int .i64 c) hz (by simp)) (by simp)) hf2 ((HB1.out.setCell (by simp) _).setCell (by simp) _)
    show Leaves _ _ _ _ _ _ _
    refine wdoor_drew k1 ?_ k3 ?_ ?_ HN.out
    · exact k2
    · rfl
    · rfl
end Go.Proofs.YtcdeicfegfedfaaGreatDoor
