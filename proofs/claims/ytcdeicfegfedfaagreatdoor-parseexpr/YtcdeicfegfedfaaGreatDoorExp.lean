/- Contract of parse.Expr. -/
import Derived.Test.YtcdeicfegfedfaaGreatDoorWhl
import Derived.Test.YtcdeicfegfedfaaGreatDoorGaFm
import Derived.Test.YtcdeicfegfedfaaGreatDoorGaExa
import Derived.Test.YtcdeicfegfedfaaGreatDoorGaShC
namespace Go.Proofs.YtcdeicfegfedfaaGreatDoor
open Go.RowKit
open Par (Tok Po Tr nx atP isT ba Res)

theorem atoiC : AtoiC := fun s n w hs h => Tryz.strconv_Atoi s n w hs h
def Par.parseE (l : List UInt8) : Res Tr := (Par.readE l).bind fun t _ => if Par.formD 12 t = true then .ok t [] else .no 2 0
theorem pdoor {w wz : World} {tm : Array Value} {res : Res Tr} {c : Int} {q : Nat} (hb : Below w.heap.size w wz) (hz : wz.heap[w.heap.size]? = some (.cells ZE 26 (0, 0))) (hf : wz.heap[w.heap.size + 1]? = some (.cells #[.int .i64 c, .int .i64 (q : Int)] 29 (0, 0)))
    (h2 : tm[2]? = some (.pointer (some ⟨w.heap.size, 0, none⟩))) (h3 : tm[3]? = some (.pointer (some ⟨w.heap.size + 1, 0, none⟩))) (hr : res = .no c q) :
    bodyPost Tryz.prog Tryz.f4 (WPost w res) .ret { tmps := tm, defers := [] } wz := by
  unfold ZE at hz
  obtain ⟨⟨q0, q1, q2, q3, q4, q5, q6⟩, _⟩ := blkE hz
  have e0 : wz.cell? ⟨w.heap.size + 1, 0, none⟩ = some (.int .i64 c) := by simp [World.cell?, hf]
  have e1 : wz.cell? ⟨w.heap.size + 1, 1, none⟩ = some (.int .i64 (q : Int)) := by simp [World.cell?, hf]
  exact bodyPost_ret (v := .tuple #[.agg ZE, .agg #[.int .i64 c, .int .i64 (q : Int)]]) (by simp [results, Tryz.results4, go_sem, h2, h3, q0, q1, q2, q3, q4, q5, q6, e0, e1, ZE]) rfl ⟨hb, .inr ⟨c, q, hr, rfl⟩⟩
theorem pdoor_ok {w wz : World} {tm : Array Value} {res : Res Tr} {t : Tr} {z0 z1 z2 z3 : Int} {z4 : ByteArray} {z5 : Option Addr} {m5 d5 : Nat} {z6 : Option Addr} {m6 d6 : Nat} (hb : Below w.heap.size w wz) (hz : wz.heap[w.heap.size]? = some (.cells #[.int .i64 z0, .int .i64 z1, .int .i64 z2, .int .i64 z3, .string z4, .slice z5 m5 d5, .slice z6 m6 d6] 26 (0, 0))) (hf : wz.heap[w.heap.size + 1]? = some (.cells #[.int .i64 0, .int .i64 0] 29 (0, 0)))
    (h2 : tm[2]? = some (.pointer (some ⟨w.heap.size, 0, none⟩))) (h3 : tm[3]? = some (.pointer (some ⟨w.heap.size + 1, 0, none⟩))) (hr : res = .ok t []) (ht : TrIs wz (fun b => w.heap.size ≤ b) t [.int .i64 z0, .int .i64 z1, .int .i64 z2, .int .i64 z3, .string z4, .slice z5 m5 d5, .slice z6 m6 d6]) :
    bodyPost Tryz.prog Tryz.f4 (WPost w res) .ret { tmps := tm, defers := [] } wz.drew := by
  obtain ⟨⟨q0, q1, q2, q3, q4, q5, q6⟩, _⟩ := blkE hz
  have e0 : wz.cell? ⟨w.heap.size + 1, 0, none⟩ = some (.int .i64 0) := by simp [World.cell?, hf]
  have e1 : wz.cell? ⟨w.heap.size + 1, 1, none⟩ = some (.int .i64 0) := by simp [World.cell?, hf]
  exact bodyPost_ret (v := .tuple #[.agg #[.int .i64 z0, .int .i64 z1, .int .i64 z2, .int .i64 z3, .string z4, .slice z5 m5 d5, .slice z6 m6 d6], .agg #[.int .i64 0, .int .i64 0]]) (by simp [results, Tryz.results4, go_sem, h2, h3, q0, q1, q2, q3, q4, q5, q6, e0, e1]) rfl ⟨hb.drew, .inl ⟨t, hr, _, _, _, _, _, _, _, _, _, _, _, rfl, ht.keeps ⟨Nat.le_refl _, fun _ _ _ => rfl⟩⟩⟩
theorem pdoor_drew {w wz : World} {tm : Array Value} {res : Res Tr} {c : Int} {q : Nat} (hb : Below w.heap.size w wz) (hz : wz.heap[w.heap.size]? = some (.cells ZE 26 (0, 0))) (hf : wz.heap[w.heap.size + 1]? = some (.cells #[.int .i64 c, .int .i64 (q : Int)] 29 (0, 0)))
    (h2 : tm[2]? = some (.pointer (some ⟨w.heap.size, 0, none⟩))) (h3 : tm[3]? = some (.pointer (some ⟨w.heap.size + 1, 0, none⟩))) (hr : res = .no c q) :
    bodyPost Tryz.prog Tryz.f4 (WPost w res) .ret { tmps := tm, defers := [] } wz.drew := pdoor (wz := wz.drew) hb.drew hz hf h2 h3 hr
set_option maxRecDepth 100000 in
set_option maxHeartbeats 8000000 in
theorem parseC (s : ByteArray) (w : World) (hs : s.size ≤ maxLen) (hl : LevAt w w.heap.size) :
    Calls Tryz.prog 4 #[.string s] w (WPost w (Par.parseE s.data.toList)) := by
  obtain ⟨w0, hw0⟩ : ∃ w0, w0 = (w.alloc (.cells ZE 26)).alloc (.cells #[.int .i64 0, .int .i64 0] 29) := ⟨_, rfl⟩
  have hbel : Below w.heap.size w w0 := by rw [hw0]; exact ((Below.refl _ _).alloc (Nat.le_refl _) _).alloc (by simp) _
  have hs0 : w0.heap.size = w.heap.size + 2 := by rw [hw0]; simp
  have hres : w0.heap[w.heap.size]? = some (.cells ZE 26 (0, 0)) := by rw [hw0]; exact heap_past_alloc (heap_at_alloc _ _ _ rfl)
  have hfau : w0.heap[w.heap.size + 1]? = some (.cells #[.int .i64 0, .int .i64 0] 29 (0, 0)) := by rw [hw0]; exact heap_at_alloc _ _ _ (by simp)
  have hwh := wholeC (fun rb e => expr_all atoiC) s w0 hs ((hl.keeps hbel.size fun b hb => hbel.block b hb).mono (by omega))
  have HL : Hid (∀ V, Below w.heap.size w V → LevAt V w.heap.size) := fun V hV => hl.keeps hV.size fun b hb => hV.block b hb
  have HB : Hid (Below w.heap.size w w0) := hbel
  have HR : Hid (w0.heap[w.heap.size]? = some (.cells ZE 26 (0, 0)) ∧ w0.heap[w.heap.size + 1]? = some (.cells #[.int .i64 0, .int .i64 0] 29 (0, 0))) := ⟨hres, hfau⟩
  have HZ : Hid (w0.heap.size = w.heap.size + 2) := hs0
  unfold ZE at hw0
  clear hl hbel hres hfau hs0
  go_enter Tryz.func4, Tryz.ntmps4
  go_wp2_with fail
  rw [← hw0]
  clear hw0
  refine hwh.mono ?_
  rintro x W1 ⟨hb1, ⟨t, hr, z0, z1, z2, z3, z4, z5, m5, d5, z6, m6, d6, rfl, ht⟩ | ⟨c, q, hr, rfl⟩⟩
  · have hz0 := HZ.out
    have hz1 := hb1.size
    have hr1 : W1.heap[w.heap.size]? = some (.cells ZE 26 (0, 0)) := (hb1.block _ (by omega)).trans HR.out.1
    have hf1 : W1.heap[w.heap.size + 1]? = some (.cells #[.int .i64 0, .int .i64 0] 29 (0, 0)) := (hb1.block _ (by omega)).trans HR.out.2
    have hbw : Below w.heap.size w W1 := HB.out.trans (hb1.mono (by omega))
    obtain ⟨W2, hW2⟩ : ∃ W2, W2 = (W1.alloc (.cells #[.int .i64 z0, .int .i64 z1, .int .i64 z2, .int .i64 z3, .string z4, .slice z5 m5 d5, .slice z6 m6 d6] 26)).alloc (.cells #[.int .i64 0, .int .i64 0] 29) := ⟨_, rfl⟩
    have hb2 : Below W1.heap.size W1 W2 := by rw [hW2]; exact ((Below.refl _ _).alloc (Nat.le_refl _) _).alloc (by simp) _
    have hbw2 : Below w.heap.size w W2 := hbw.trans (hb2.mono (by omega))
    have ht2 := (ht.keeps (Keeps.of_below hb2))
    have hzz2 : W2.heap.size = W1.heap.size + 2 := by rw [hW2]; simp
    have hfo := formedC ht2 ((HL.out _ hbw2).mono (by omega))
    have hx2 : W2.heap[W1.heap.size]? = some (.cells #[.int .i64 z0, .int .i64 z1, .int .i64 z2, .int .i64 z3, .string z4, .slice z5 m5 d5, .slice z6 m6 d6] 26 (0, 0)) := by rw [hW2]; exact heap_past_alloc (heap_at_alloc _ _ _ rfl)
    have hy2 : W2.heap[W1.heap.size + 1]? = some (.cells #[.int .i64 0, .int .i64 0] 29 (0, 0)) := by rw [hW2]; exact heap_at_alloc _ _ _ (by simp)
    have HT2 : Hid (TrIs W2 (fun b => w0.heap.size ≤ b) t [.int .i64 z0, .int .i64 z1, .int .i64 z2, .int .i64 z3, .string z4, .slice z5 m5 d5, .slice z6 m6 d6]) := ht2
    have HBW2 : Hid (Below w.heap.size w W2) := hbw2
    have HRF : Hid (W2.heap[w.heap.size]? = some (.cells ZE 26 (0, 0)) ∧ W2.heap[w.heap.size + 1]? = some (.cells #[.int .i64 0, .int .i64 0] 29 (0, 0))) := ⟨(hb2.block _ (lt_of_block hr1)).trans hr1, (hb2.block _ (lt_of_block hf1)).trans hf1⟩
    have HXY : Hid (W2.heap[W1.heap.size]? = some (.cells #[.int .i64 z0, .int .i64 z1, .int .i64 z2, .int .i64 z3, .string z4, .slice z5 m5 d5, .slice z6 m6 d6] 26 (0, 0)) ∧ W2.heap[W1.heap.size + 1]? = some (.cells #[.int .i64 0, .int .i64 0] 29 (0, 0))) := ⟨hx2, hy2⟩
    have hwl : w.heap.size + 2 ≤ W1.heap.size := by omega
    have HPE : Hid (Par.parseE s.data.toList = if Par.formD 12 t = true then .ok t [] else .no 2 0) := by show _ = _; unfold Par.parseE; rw [hr]; rfl
    cases hq : Par.formD 12 t with
    | true =>
      rw [hq] at hfo HPE
      have HOK : Hid (Par.parseE s.data.toList = .ok t []) := HPE.out
      clear hq ht ht2 hx2 hy2 hbw2 hb2 hbw hr1 hf1 hb1 hwh hr hzz2 hz1 hz0
      go_wp2_with fail
      rw [← hW2]
      clear hW2
      refine hfo.mono ?_
      rintro x W3 ⟨rfl, hb3⟩
      have hb3w : Below w.heap.size w W3 := HBW2.out.trans (hb3.mono HBW2.out.size)
      have hn3 : W3.heap[w.heap.size]? = some (.cells ZE 26 (0, 0)) := (hb3.block _ (lt_of_block HRF.out.1)).trans HRF.out.1
      have hm3 : W3.heap[w.heap.size + 1]? = some (.cells #[.int .i64 0, .int .i64 0] 29 (0, 0)) := (hb3.block _ (lt_of_block HRF.out.2)).trans HRF.out.2
      have hx3 : W3.heap[W1.heap.size]? = some (.cells #[.int .i64 z0, .int .i64 z1, .int .i64 z2, .int .i64 z3, .string z4, .slice z5 m5 d5, .slice z6 m6 d6] 26 (0, 0)) := (hb3.block _ (lt_of_block HXY.out.1)).trans HXY.out.1
      have hy3 : W3.heap[W1.heap.size + 1]? = some (.cells #[.int .i64 0, .int .i64 0] 29 (0, 0)) := (hb3.block _ (lt_of_block HXY.out.2)).trans HXY.out.2
      have HRF3 : Hid (W3.heap[w.heap.size]? = some (.cells ZE 26 (0, 0)) ∧ W3.heap[w.heap.size + 1]? = some (.cells #[.int .i64 0, .int .i64 0] 29 (0, 0))) := ⟨hn3, hm3⟩
      have HBW3 : Hid (Below w.heap.size w W3) := hb3w
      have HT3 : Hid (TrIs W3 (fun b => w0.heap.size ≤ b) t [.int .i64 z0, .int .i64 z1, .int .i64 z2, .int .i64 z3, .string z4, .slice z5 m5 d5, .slice z6 m6 d6]) := HT2.out.keeps (Keeps.of_below hb3)
      have n1 := lt_of_block hn3
      have n2 := lt_of_block hm3
      have n3 := lt_of_block hx3
      have n4 := lt_of_block hy3
      unfold ZE at hn3
      obtain ⟨⟨r0, r1, r2, r3, r4, r5, r6⟩, p0, p1, p2, p3, p4, p5, p6⟩ := blkE hn3
      obtain ⟨⟨x0, x1, x2, x3, x4, x5, x6⟩, _⟩ := blkE hx3
      obtain ⟨⟨g0, g1⟩, f0, f1⟩ : (W3.cell? ⟨w.heap.size + 1, 0, none⟩ = some (.int .i64 0) ∧ W3.cell? ⟨w.heap.size + 1, 1, none⟩ = some (.int .i64 0)) ∧ W3.frozen? ⟨w.heap.size + 1, 0, none⟩ = false ∧ W3.frozen? ⟨w.heap.size + 1, 1, none⟩ = false := by refine ⟨⟨?_, ?_⟩, ?_, ?_⟩ <;> simp [World.cell?, World.frozen?, hm3]
      obtain ⟨y0, y1⟩ : W3.cell? ⟨W1.heap.size + 1, 0, none⟩ = some (.int .i64 0) ∧ W3.cell? ⟨W1.heap.size + 1, 1, none⟩ = some (.int .i64 0) := blkL hy3
      clear hb3 hb3w hn3 hm3 hx3 hy3
      go_wp2
      go_region
      all_goals (try go_wp2)
      have hz := HRF3.out.1
      unfold ZE at hz
      obtain ⟨k1, k2, k3, k4⟩ := fin9 (a0 := .int .i64 z0) (a1 := .int .i64 z1) (a2 := .int .i64 z2) (a3 := .int .i64 z3) (a4 := .string z4) (a5 := .slice z5 m5 d5) (a6 := .slice z6 m6 d6) (b0 := .int .i64 0) (b1 := .int .i64 0) hz HRF3.out.2 HBW3.out
      have hw0z := HZ.out
      have ht := (HT3.out.keeps ⟨by simp [World.setCell], fun b hb _ => k4 b (by omega) (by omega)⟩).mono (S' := fun b => w.heap.size ≤ b) fun b hb _ => by omega
      refine pdoor_ok k1 k2 k3 ?_ ?_ HOK.out ht
      · rfl
      · rfl
    | false =>
      rw [hq] at hfo HPE
      have HNO : Hid (Par.parseE s.data.toList = .no 2 0) := HPE.out
      clear hq ht ht2 hx2 hy2 hbw2 hb2 hbw hr1 hf1 hb1 hwh hr hzz2 hz1 hz0
      go_wp2_with fail
      rw [← hW2]
      clear hW2
      refine hfo.mono ?_
      rintro x W3 ⟨rfl, hb3⟩
      have hb3w : Below w.heap.size w W3 := HBW2.out.trans (hb3.mono HBW2.out.size)
      have hn3 : W3.heap[w.heap.size]? = some (.cells ZE 26 (0, 0)) := (hb3.block _ (lt_of_block HRF.out.1)).trans HRF.out.1
      have hm3 : W3.heap[w.heap.size + 1]? = some (.cells #[.int .i64 0, .int .i64 0] 29 (0, 0)) := (hb3.block _ (lt_of_block HRF.out.2)).trans HRF.out.2
      have hx3 : W3.heap[W1.heap.size]? = some (.cells #[.int .i64 z0, .int .i64 z1, .int .i64 z2, .int .i64 z3, .string z4, .slice z5 m5 d5, .slice z6 m6 d6] 26 (0, 0)) := (hb3.block _ (lt_of_block HXY.out.1)).trans HXY.out.1
      have hy3 : W3.heap[W1.heap.size + 1]? = some (.cells #[.int .i64 0, .int .i64 0] 29 (0, 0)) := (hb3.block _ (lt_of_block HXY.out.2)).trans HXY.out.2
      have HRF3 : Hid (W3.heap[w.heap.size]? = some (.cells ZE 26 (0, 0)) ∧ W3.heap[w.heap.size + 1]? = some (.cells #[.int .i64 0, .int .i64 0] 29 (0, 0))) := ⟨hn3, hm3⟩
      have HBW3 : Hid (Below w.heap.size w W3) := hb3w
      have HT3 : Hid (TrIs W3 (fun b => w0.heap.size ≤ b) t [.int .i64 z0, .int .i64 z1, .int .i64 z2, .int .i64 z3, .string z4, .slice z5 m5 d5, .slice z6 m6 d6]) := HT2.out.keeps (Keeps.of_below hb3)
      have n1 := lt_of_block hn3
      have n2 := lt_of_block hm3
      have n3 := lt_of_block hx3
      have n4 := lt_of_block hy3
      unfold ZE at hn3
      obtain ⟨⟨r0, r1, r2, r3, r4, r5, r6⟩, p0, p1, p2, p3, p4, p5, p6⟩ := blkE hn3
      obtain ⟨⟨x0, x1, x2, x3, x4, x5, x6⟩, _⟩ := blkE hx3
      obtain ⟨⟨g0, g1⟩, f0, f1⟩ : (W3.cell? ⟨w.heap.size + 1, 0, none⟩ = some (.int .i64 0) ∧ W3.cell? ⟨w.heap.size + 1, 1, none⟩ = some (.int .i64 0)) ∧ W3.frozen? ⟨w.heap.size + 1, 0, none⟩ = false ∧ W3.frozen? ⟨w.heap.size + 1, 1, none⟩ = false := by refine ⟨⟨?_, ?_⟩, ?_, ?_⟩ <;> simp [World.cell?, World.frozen?, hm3]
      obtain ⟨y0, y1⟩ : W3.cell? ⟨W1.heap.size + 1, 0, none⟩ = some (.int .i64 0) ∧ W3.cell? ⟨W1.heap.size + 1, 1, none⟩ = some (.int .i64 0) := blkL hy3
      clear hb3 hb3w hn3 hm3 hx3 hy3
      go_wp2
      have hz := HRF3.out.1
      unfold ZE at hz
      obtain ⟨k1, k2, k3, k4⟩ := fin9 (a0 := .int .i64 0) (a1 := .int .i64 0) (a2 := .int .i64 0) (a3 := .int .i64 0) (a4 := .string ⟨#[]⟩) (a5 := .slice none 0 0) (a6 := .slice none 0 0) (b0 := .int .i64 2) (b1 := .int .i64 0) hz HRF3.out.2 HBW3.out
      refine pdoor (c := 2) (q := 0) k1 ?_ k3 ?_ ?_ HNO.out
      · exact k2
      · rfl
      · rfl
  · have hz0 := HZ.out
    have hz1 := hb1.size
    have hr1 : W1.heap[w.heap.size]? = some (.cells ZE 26 (0, 0)) := (hb1.block _ (by omega)).trans HR.out.1
    have hf1 : W1.heap[w.heap.size + 1]? = some (.cells #[.int .i64 0, .int .i64 0] 29 (0, 0)) := (hb1.block _ (by omega)).trans HR.out.2
    have hbw : Below w.heap.size w W1 := HB.out.trans (hb1.mono (by omega))
    have hc0 : c ≠ 0 := Par.whole_bad (fun e => Par.expr_bad e 12) _ hr
    have bc : (c == 0) = false := by simp [hc0]
    have HNO : Hid (Par.parseE s.data.toList = .no c q) := by show _ = _; unfold Par.parseE; rw [hr]; rfl
    obtain ⟨W2, hW2⟩ : ∃ W2, W2 = (W1.alloc (.cells ZE 26)).alloc (.cells #[.int .i64 c, .int .i64 (q : Int)] 29) := ⟨_, rfl⟩
    have hb2 : Below W1.heap.size W1 W2 := by rw [hW2]; exact ((Below.refl _ _).alloc (Nat.le_refl _) _).alloc (by simp) _
    have HRF : Hid (W2.heap[w.heap.size]? = some (.cells ZE 26 (0, 0)) ∧ W2.heap[w.heap.size + 1]? = some (.cells #[.int .i64 0, .int .i64 0] 29 (0, 0))) := ⟨(hb2.block _ (lt_of_block hr1)).trans hr1, (hb2.block _ (lt_of_block hf1)).trans hf1⟩
    have HBW2 : Hid (Below w.heap.size w W2) := hbw.trans (hb2.mono (by omega))
    have hx2 : W2.heap[W1.heap.size]? = some (.cells ZE 26 (0, 0)) := by rw [hW2]; exact heap_past_alloc (heap_at_alloc _ _ _ rfl)
    have hy2 : W2.heap[W1.heap.size + 1]? = some (.cells #[.int .i64 c, .int .i64 (q : Int)] 29 (0, 0)) := by rw [hW2]; exact heap_at_alloc _ _ _ (by simp)
    have HXY : Hid (W2.heap[W1.heap.size]? = some (.cells ZE 26 (0, 0)) ∧ W2.heap[W1.heap.size + 1]? = some (.cells #[.int .i64 c, .int .i64 (q : Int)] 29 (0, 0))) := ⟨hx2, hy2⟩
    have HW2 : Hid (W2 = (W1.alloc (.cells #[.int .i64 0, .int .i64 0, .int .i64 0, .int .i64 0, .string ⟨#[]⟩, .slice none 0 0, .slice none 0 0] 26)).alloc (.cells #[.int .i64 c, .int .i64 (q : Int)] 29)) := hW2
    have hwl : w.heap.size + 2 ≤ W1.heap.size := by omega
    clear hb1 hr1 hf1 hbw hc0 hb2 hW2 hr hz0 hz1 hx2 hy2 hwh
    unfold ZE
    go_wp2
    rw [← HW2.out]
    have hn3 := HRF.out.1
    have hm3 := HRF.out.2
    have hx3 := HXY.out.1
    have n1 := lt_of_block hn3
    have n2 := lt_of_block hm3
    have n3 := lt_of_block hx3
    have n4 := lt_of_block HXY.out.2
    unfold ZE at hn3 hx3
    obtain ⟨⟨r0, r1, r2, r3, r4, r5, r6⟩, p0, p1, p2, p3, p4, p5, p6⟩ := blkE hn3
    obtain ⟨⟨x0, x1, x2, x3, x4, x5, x6⟩, _⟩ := blkE hx3
    obtain ⟨⟨g0, g1⟩, f0, f1⟩ : (W2.cell? ⟨w.heap.size + 1, 0, none⟩ = some (.int .i64 0) ∧ W2.cell? ⟨w.heap.size + 1, 1, none⟩ = some (.int .i64 0)) ∧ W2.frozen? ⟨w.heap.size + 1, 0, none⟩ = false ∧ W2.frozen? ⟨w.heap.size + 1, 1, none⟩ = false := by refine ⟨⟨?_, ?_⟩, ?_, ?_⟩ <;> simp [World.cell?, World.frozen?, hm3]
    obtain ⟨y0, y1⟩ : W2.cell? ⟨W1.heap.size + 1, 0, none⟩ = some (.int .i64 c) ∧ W2.cell? ⟨W1.heap.size + 1, 1, none⟩ = some (.int .i64 (q : Int)) := blkL HXY.out.2
    have hz : W2.heap[w.heap.size]? = some (.cells #[.int .i64 0, .int .i64 0, .int .i64 0, .int .i64 0, .string ⟨#[]⟩, .slice none 0 0, .slice none 0 0] 26 (0, 0)) := hn3
    have HZZ : Hid (W2.heap[w.heap.size]? = some (.cells #[.int .i64 0, .int .i64 0, .int .i64 0, .int .i64 0, .string ⟨#[]⟩, .slice none 0 0, .slice none 0 0] 26 (0, 0))) := hz
    clear hn3 hm3 hx3 hz
    go_region
    all_goals (try go_wp2)
    obtain ⟨k1, k2, k3, k4⟩ := fin9 (a0 := .int .i64 0) (a1 := .int .i64 0) (a2 := .int .i64 0) (a3 := .int .i64 0) (a4 := .string ⟨#[]⟩) (a5 := .slice none 0 0) (a6 := .slice none 0 0) (b0 := .int .i64 c) (b1 := .int .i64 (q : Int)) HZZ.out HRF.out.2 HBW2.out
    refine pdoor_drew k1 ?_ k3 ?_ ?_ HNO.out
    · exact k2
    · rfl
    · rfl
end Go.Proofs.YtcdeicfegfedfaaGreatDoor
