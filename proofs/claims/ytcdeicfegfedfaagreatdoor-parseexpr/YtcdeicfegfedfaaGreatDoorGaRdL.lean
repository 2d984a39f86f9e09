/- The document's read at expressions: a whole text is read as in plain words. The document's read at labels, and ReadLabel. parse.whole at labels, parse.Label and the document's ReadLabel. -/
import Derived.Test.YtcdeicfegfedfaaGreatDoorGaDcM
import Derived.Test.YtcdeicfegfedfaaGreatDoorGaTok
import Derived.Test.YtcdeicfegfedfaaGreatDoorWhl
import Derived.Test.YtcdeicfegfedfaaGreatDoorGaFx
import Derived.Test.YtcdeicfegfedfaaGreatDoorGaRec
namespace Go.Proofs.YtcdeicfegfedfaaGreatDoor
open Go.RowKit
open Par (Tok Tr Po Res nx atP isT seesB ba)

theorem Lex.scanF_zero (l : List UInt8) : ∀ (f p : Nat) (acc out : List Tok) (q : Nat), Lex.scanF l f p acc = (out, 0, q) → q = 0 := by
  intro f
  induction f with
  | zero => intro p acc out q h; simp [Lex.scanF] at h; exact h.2.symm
  | succ f ih =>
    intro p acc out q h
    unfold Lex.scanF at h
    split at h
    · split at h
      · simp at h; exact h.2.symm
      · split at h
        · simp at h
        · exact ih _ _ _ _ h
    · rename_i h0
      simp only [Prod.mk.injEq] at h
      exact absurd h.2.1 h0
theorem Lex.scan_zero {l : List UInt8} {out : List Tok} {q : Nat} (h : Lex.scanAll l = (out, 0, q)) : q = 0 := by
  unfold Lex.scanAll at h
  split at h
  · simp at h
  · exact Lex.scanF_zero _ _ _ _ _ _ h
theorem tx_new {w : World} {B e : Nat} {l : List UInt8} {ts : List Tok} {q : Nat} {v : Value} (he : e ≤ 4000) (hown : w.ownsRow B 80 3 v ts.length (Lex.cellsOf ts)) (hs : Lex.scanAll l = (ts, 0, q)) :
    Tx (w.alloc (.cells #[v, .int .i64 0, .int .i64 (e : Int), .int .i64 0, .int .i64 0, .int .i64 0, .int .i64 0] 78)) w.heap.size e ts v 0 0 0 0 0 := by
  obtain ⟨h1, h2, h3⟩ := Lex.all_from hs
  rw [cells_flat] at hown
  have hr : RowV w (fun b => b < w.heap.size) 3 v (ts.map tokC) := (RowV.of_own (S := fun _ => True) hown (by simp) (fun i hi => by simp [tokC]) (fun _ _ => trivial)).mono fun b _ h => h
  have hr2 := hr.keeps (w' := w.alloc (.cells #[v, .int .i64 0, .int .i64 (e : Int), .int .i64 0, .int .i64 0, .int .i64 0, .int .i64 0] 78)) ⟨by simp, fun b hb _ => Below.heap_alloc _ _ b hb⟩
  obtain ⟨ao, b, off, cap, hv, hra⟩ := hr2
  refine ⟨heap_at_alloc _ _ _ rfl, Nat.zero_le _, by omega, by omega, ao, b, off, cap, by simpa using hv, fun hp => ?_, fun i hi => ?_⟩
  · have hp' : 0 < (ts.map tokC).length := by simpa using hp
    have hb : b < w.heap.size := hra.ok hp'
    exact ⟨hra.adr hp', by omega, by simp; omega⟩
  · have hi' : i < (ts.map tokC).length := by simpa using hi
    have c0 := hra.cell i hi' 0 (.int .i64 ts[i].1) (by simp [tokC])
    have c1 := hra.cell i hi' 1 (.int .i64 (ts[i].2.1 : Int)) (by simp [tokC])
    have c2 := hra.cell i hi' 2 (.string (ba ts[i].2.2)) (by simp [tokC])
    exact ⟨c0, c1, c2⟩
/- What the document's reading leans on. -/
def TkW (w : World) : Prop := Mxl w ∧ ∀ V, Below w.heap.size w V → Lib.TabIs Tryz.prog V "strings.asciiSpace" .u8 Lib.asciiSpaceTab
theorem TkW.later {w w' : World} (h : TkW w) (hb : Below w.heap.size w w') : TkW w' := ⟨h.1.later hb, fun V hV => h.2 V (hb.trans (hV.mono hb.size))⟩
theorem xdoor {w wz : World} {tm : Array Value} {res : Res Tr} {z0 z1 z2 z3 : Int} {z4 : ByteArray} {z5 : Option Addr} {m5 d5 : Nat} {z6 : Option Addr} {m6 d6 : Nat} {c q : Int} (hz : wz.heap[w.heap.size]? = some (.cells #[.int .i64 z0, .int .i64 z1, .int .i64 z2, .int .i64 z3, .string z4, .slice z5 m5 d5, .slice z6 m6 d6] 26 (0, 0))) (hf : wz.heap[w.heap.size + 1]? = some (.cells #[.int .i64 c, .int .i64 q] 29 (0, 0)))
    (h4 : tm[4]? = some (.pointer (some ⟨w.heap.size, 0, none⟩))) (h5 : tm[5]? = some (.pointer (some ⟨w.heap.size + 1, 0, none⟩))) (hp : WPost w res (.returned (.tuple #[.agg #[.int .i64 z0, .int .i64 z1, .int .i64 z2, .int .i64 z3, .string z4, .slice z5 m5 d5, .slice z6 m6 d6], .agg #[.int .i64 c, .int .i64 q]])) wz.drew) :
    bodyPost Tryz.prog Tryz.f17 (WPost w res) .ret { tmps := tm, defers := [] } wz.drew := by
  obtain ⟨⟨q0, q1, q2, q3, q4, q5, q6⟩, _⟩ := blkE hz
  have e0 : wz.cell? ⟨w.heap.size + 1, 0, none⟩ = some (.int .i64 c) := by simp [World.cell?, hf]
  have e1 : wz.cell? ⟨w.heap.size + 1, 1, none⟩ = some (.int .i64 q) := by simp [World.cell?, hf]
  exact bodyPost_ret (v := .tuple #[.agg #[.int .i64 z0, .int .i64 z1, .int .i64 z2, .int .i64 z3, .string z4, .slice z5 m5 d5, .slice z6 m6 d6], .agg #[.int .i64 c, .int .i64 q]]) (by simp [results, Tryz.results17, go_sem, h4, h5, q0, q1, q2, q3, q4, q5, q6, e0, e1]) rfl hp
theorem xdoor_ok {w wz : World} {tm : Array Value} {res : Res Tr} {t : Tr} {z0 z1 z2 z3 : Int} {z4 : ByteArray} {z5 : Option Addr} {m5 d5 : Nat} {z6 : Option Addr} {m6 d6 : Nat} (hb : Below w.heap.size w wz) (hz : wz.heap[w.heap.size]? = some (.cells #[.int .i64 z0, .int .i64 z1, .int .i64 z2, .int .i64 z3, .string z4, .slice z5 m5 d5, .slice z6 m6 d6] 26 (0, 0))) (hf : wz.heap[w.heap.size + 1]? = some (.cells #[.int .i64 0, .int .i64 0] 29 (0, 0)))
    (h4 : tm[4]? = some (.pointer (some ⟨w.heap.size, 0, none⟩))) (h5 : tm[5]? = some (.pointer (some ⟨w.heap.size + 1, 0, none⟩))) (hr : res = .ok t []) (ht : TrIs wz (fun b => w.heap.size ≤ b) t [.int .i64 z0, .int .i64 z1, .int .i64 z2, .int .i64 z3, .string z4, .slice z5 m5 d5, .slice z6 m6 d6]) :
    bodyPost Tryz.prog Tryz.f17 (WPost w res) .ret { tmps := tm, defers := [] } wz.drew :=
  xdoor hz hf h4 h5 ⟨hb.drew, .inl ⟨t, hr, _, _, _, _, _, _, _, _, _, _, _, rfl, ht.keeps ⟨Nat.le_refl _, fun _ _ _ => rfl⟩⟩⟩
set_option maxRecDepth 100000 in
set_option maxHeartbeats 8000000 in
theorem readXC (s : ByteArray) (w : World) (hs : s.size ≤ 140737488351232) (hk : TkW w) (hpi : PintC) :
    Calls Tryz.prog 17 #[.string s, .func (.func 18) #[] #[]] w (WPost w (Par.readE s.data.toList)) := by
  have hmf : ∀ (fn : Fn) (first cap : Array Value) (w : World), (Instr.makeFunc fn first cap).run Tryz.prog w = .ok (.func fn first cap) w := fun _ _ _ _ => rfl
  have eg : ∀ args w, (callFunc 18 args).run Tryz.prog w = .ok (.enter 18 args) w := enters_of Tryz.func18 (by kernel_rfl) rfl
  obtain ⟨w0, hw0⟩ : ∃ w0, w0 = (w.alloc (.cells ZE 26)).alloc (.cells #[.int .i64 0, .int .i64 0] 29) := ⟨_, rfl⟩
  have hbel : Below w.heap.size w w0 := by rw [hw0]; exact ((Below.refl _ _).alloc (Nat.le_refl _) _).alloc (by simp) _
  have hs0 : w0.heap.size = w.heap.size + 2 := by rw [hw0]; simp
  have hres : w0.heap[w.heap.size]? = some (.cells ZE 26 (0, 0)) := by rw [hw0]; exact heap_past_alloc (heap_at_alloc _ _ _ rfl)
  have hfau : w0.heap[w.heap.size + 1]? = some (.cells #[.int .i64 0, .int .i64 0] 29 (0, 0)) := by rw [hw0]; exact heap_at_alloc _ _ _ (by simp)
  have hk0 := hk.later hbel
  obtain ⟨mx, hmx⟩ := hk0.1
  have HSC := tokens_any s mx w0 hs hmx (hk0.2 w0 (Below.refl _ _))
  have HB : Hid (Below w.heap.size w w0) := hbel
  have HR : Hid (w0.heap[w.heap.size]? = some (.cells ZE 26 (0, 0)) ∧ w0.heap[w.heap.size + 1]? = some (.cells #[.int .i64 0, .int .i64 0] 29 (0, 0))) := ⟨hres, hfau⟩
  have HPi : Hid PintC := hpi
  unfold ZE at hw0
  clear hbel hres hfau hk hk0 hmx hpi
  go_enter Tryz.func17, Tryz.ntmps17
  go_wp2_with fail
  rw [← hw0]
  clear hw0
  refine HSC.mono ?_
  rintro e w1 ⟨v, l, c, q, rfl, hsc, hown, hb1⟩
  obtain ⟨ao, cap, rfl⟩ := slice_of hown
  have hz1 := hb1.size
  have hr1 : w1.heap[w.heap.size]? = some (.cells ZE 26 (0, 0)) := (hb1.block _ (by omega)).trans HR.out.1
  have hf1 : w1.heap[w.heap.size + 1]? = some (.cells #[.int .i64 0, .int .i64 0] 29 (0, 0)) := (hb1.block _ (by omega)).trans HR.out.2
  have HB1 : Hid (Below w.heap.size w w1) := HB.out.trans (hb1.mono (by omega))
  have HO : Hid (w1.ownsRow w0.heap.size 80 3 (.slice ao l.length cap) l.length (Lex.cellsOf l)) := hown
  have HS : Hid (Lex.scanAll s.data.toList = (l, c, q)) := hsc
  have HR1 : Hid (w1.heap[w.heap.size]? = some (.cells ZE 26 (0, 0)) ∧ w1.heap[w.heap.size + 1]? = some (.cells #[.int .i64 0, .int .i64 0] 29 (0, 0))) := ⟨hr1, hf1⟩
  have l1 := lt_of_block hf1
  unfold ZE at hr1
  obtain ⟨⟨r0, r1, r2, r3, r4, r5, r6⟩, p0, p1, p2, p3, p4, p5, p6⟩ := blkE hr1
  obtain ⟨⟨g0, g1⟩, f0, f1⟩ : (w1.cell? ⟨w.heap.size + 1, 0, none⟩ = some (.int .i64 0) ∧ w1.cell? ⟨w.heap.size + 1, 1, none⟩ = some (.int .i64 0)) ∧ w1.frozen? ⟨w.heap.size + 1, 0, none⟩ = false ∧ w1.frozen? ⟨w.heap.size + 1, 1, none⟩ = false := by refine ⟨⟨?_, ?_⟩, ?_, ?_⟩ <;> simp [World.cell?, World.frozen?, hf1]
  have l2 : w.heap.size < w1.heap.size := by omega
  clear hb1 hown hsc hr1 hf1 HSC HB HR
  by_cases hc : c = 0
  · subst hc
    obtain rfl := Lex.scan_zero HS.out
    obtain ⟨hfr, h600, h4000⟩ := Lex.all_from HS.out
    rw [Lex.len_of] at h4000
    obtain ⟨w1', hw1'⟩ : ∃ w1', w1' = (w1.setCell ⟨w.heap.size + 1, 0, none⟩ (.int .i64 0)).setCell ⟨w.heap.size + 1, 1, none⟩ (.int .i64 0) := ⟨_, rfl⟩
    have hz1' : w1'.heap.size = w1.heap.size := by rw [hw1']; simp [World.setCell]
    have hb1' : Below w.heap.size w w1' := by rw [hw1']; exact (HB1.out.setCell (by simp) _).setCell (by simp) _
    have hown' : w1'.ownsRow w0.heap.size 80 3 (.slice ao l.length cap) l.length (Lex.cellsOf l) := by rw [hw1']; exact ownsRow_setCell_below (ownsRow_setCell_below HO.out (by show w.heap.size + 1 < _; omega) _) (by show w.heap.size + 1 < _; omega) _
    have htx := tx_new (e := s.size) h4000 hown' HS.out
    have hzz : w1'.heap[w.heap.size]? = some (.cells ZE 26 (0, 0)) := by rw [hw1']; exact heap_past_set (heap_past_set HR1.out.1 (by simp)) (by simp)
    have hff : w1'.heap[w.heap.size + 1]? = some (.cells #[.int .i64 0, .int .i64 0] 29 (0, 0)) := by rw [hw1']; simp [World.setCell, Array.getElem?_modify, HR1.out.2]
    obtain ⟨wb, hwb⟩ : ∃ wb, wb = w1'.alloc (.cells #[.slice ao l.length cap, .int .i64 0, .int .i64 (s.size : Int), .int .i64 0, .int .i64 0, .int .i64 0, .int .i64 0] 78) := ⟨_, rfl⟩
    rw [← hwb] at htx
    have hbb : Below w.heap.size w wb := by rw [hwb]; exact hb1'.alloc (by omega) _
    have hsb : wb.heap.size = w1.heap.size + 1 := by rw [← hz1', hwb]; exact Array.size_push _
    have HZB : Hid (wb.heap[w.heap.size]? = some (.cells ZE 26 (0, 0)) ∧ wb.heap[w.heap.size + 1]? = some (.cells #[.int .i64 0, .int .i64 0] 29 (0, 0))) := by rw [hwb]; exact ⟨heap_past_alloc hzz, heap_past_alloc hff⟩
    have HBB : Hid (Below w.heap.size w wb) := hbb
    obtain ⟨tb, htb⟩ : ∃ tb, tb = w1.heap.size := ⟨_, rfl⟩
    have HTX : Hid (Tx wb tb s.size l (.slice ao l.length cap) 0 0 0 0 0) := by rw [htb, ← hz1']; exact htx
    have hgd : Par.Good l := fun t ht => Lex.scan_good HS.out t ht
    have hsh : Short l := fun t ht => by
      have h9 := (hfr t ht).2.2.2
      rw [Lex.len_of] at h9
      have e9 : (ba t.2.2).size = t.2.2.length := by simp [ba, ByteArray.size]
      rw [e9]; unfold maxLen; omega
    have hnb : Numb l := fun t ht => (good_of (hfr t ht) (by rw [Lex.len_of]; exact h4000)).2.2
    have hex := (deepD (bl := 0) hgd hsh hnb HPi.out 12 (Nat.le_refl _)).2 wb 0 0 HTX.out
    have HRE : Hid (Par.readE s.data.toList = (Par.exprR s.size 12 l).bind fun a r => Par.restR s.size a r) := by
      have := Par.whole_read (R := fun e => Par.exprR e 12) HS.out
      rw [Lex.len_of] at this
      exact this
    rw [hw1'] at hwb
    have htbn : w.heap.size + 2 ≤ tb := by omega
    have hsb2 : wb.heap.size = tb + 1 := by omega
    have htbw : tb < wb.heap.size := by omega
    clear hz1' hb1' hown' htx hzz hff hw1' hbb hgd hsh hnb hfr r0 r1 r2 r3 r4 r5 r6 p0 p1 p2 p3 p4 p5 p6
    go_wp2_with fail
    rw [← hwb, ← htb]
    clear hwb htb hsb g0 g1 f0 f1
    refine hex.mono ?_
    intro x9 w2 hp9
    obtain ⟨hg2, z0, z1, z2, z3, z4, z5, m5, d5, z6, m6, d6, rfl, hcs⟩ := exd_cases hp9
    have hs2 := hg2.size
    have hbw2 : Below tb wb w2 := ⟨hg2.os, hg2.tape, hg2.output, hg2.size, fun j hj => hg2.block j (by omega) (by simp; omega)⟩
    obtain ⟨wy, hwy⟩ : ∃ wy, wy = w2.alloc (.cells #[.int .i64 z0, .int .i64 z1, .int .i64 z2, .int .i64 z3, .string z4, .slice z5 m5 d5, .slice z6 m6 d6] 26) := ⟨_, rfl⟩
    have hby : Below w2.heap.size w2 wy := by rw [hwy]; exact (Below.refl _ _).alloc (Nat.le_refl _) _
    have HYB : Hid (Below w.heap.size w wy) := HBB.out.trans ((hbw2.mono (by omega)).trans (hby.mono (by omega)))
    have HYZ : Hid (wy.heap[w.heap.size]? = some (.cells ZE 26 (0, 0)) ∧ wy.heap[w.heap.size + 1]? = some (.cells #[.int .i64 0, .int .i64 0] 29 (0, 0))) := ⟨(hby.block _ (by omega)).trans ((hbw2.block _ (by omega)).trans HZB.out.1), (hby.block _ (by omega)).trans ((hbw2.block _ (by omega)).trans HZB.out.2)⟩
    have HYY : Hid (wy.heap[w2.heap.size]? = some (.cells #[.int .i64 z0, .int .i64 z1, .int .i64 z2, .int .i64 z3, .string z4, .slice z5 m5 d5, .slice z6 m6 d6] 26 (0, 0))) := by show _ = _; rw [hwy]; exact heap_at_alloc _ _ _ rfl
    have HYW : Hid (wy = w2.alloc (.cells #[.int .i64 z0, .int .i64 z1, .int .i64 z2, .int .i64 z3, .string z4, .slice z5 m5 d5, .slice z6 m6 d6] 26)) := hwy
    have hs3 : tb + 1 ≤ w2.heap.size := by omega
    have HBY : Hid (Below w2.heap.size w2 wy) := hby
    clear hp9 hex hbw2 hg2 hwy hby
    rcases hcs with ⟨a, k, p, h1, h2, h3⟩ | ⟨c, q, h1, h2, h3⟩
    · have HTY : Hid (Tx wy tb s.size l (.slice ao l.length cap) k 0 p 0 0) := h3.later HBY.out
      have HTR : Hid (TrIs wy (fun b => tb + 1 ≤ b) a #[.int .i64 z0, .int .i64 z1, .int .i64 z2, .int .i64 z3, .string z4, .slice z5 m5 d5, .slice z6 m6 d6].toList) := (TrIs.keeps h2 (Keeps.of_below HBY.out)).mono fun b hb _ => by omega
      have HRD : Hid (Par.readE s.data.toList = Par.restR s.size a (l.drop k)) := by show _ = _; rw [HRE.out]; have h9 : Par.exprR s.size 12 l = .ok a (l.drop k) := h1; rw [h9]; rfl
      clear h1 h2 h3 HRE HBY
      obtain ⟨q0, q1, q2, q3, q4, q5, q6⟩ := HTY.out.cells
      have ltb := HTY.out.lt
      by_cases hkl : k < l.length
      · have dk : decide ((k : Int) < (l.length : Int)) = true := by simp; omega
        go_upto_region 6 with fail
        rw [← HYW.out]
        go_cut [44] (fun s44 wc => s44 = .bool true ∧ Hid (Below wy.heap.size wy wc))
        case first =>
          go_quiet ((fail))
          go_wp2_with fail
          go_meet
          exact ⟨rfl, ⟨rfl, rfl, rfl, Nat.le_refl _, fun _ _ => rfl⟩⟩
        case rest =>
          obtain ⟨rfl, HBc⟩ := hcut
          have hwr := wrongD 1 (HTY.out.later HBc.out)
          clear q0 q1 q2 q3 q4 q5 q6
          go_wp2_with fail
          refine hwr.mono ?_
          rintro x4 w4 ⟨rfl, hw4⟩
          obtain ⟨hg4, ht4⟩ := hw4
          rw [if_pos rfl, if_pos rfl] at ht4
          obtain ⟨q0, q1, q2, q3, q4, q5, q6⟩ := ht4.cells
          have lt4 := ht4.lt
          have hc4 := HBc.out.size
          have hbt : Below tb wy w4 := by
            refine Below.trans (HBc.out.mono (by omega)) ?_
            exact ⟨hg4.os, hg4.tape, hg4.output, hg4.size, fun j hj => hg4.block j (by omega) (by simp; omega)⟩
          have HB4 : Hid (Below w.heap.size w w4) := HYB.out.trans (hbt.mono (by omega))
          have hn4 : w4.heap[w.heap.size]? = some (.cells ZE 26 (0, 0)) := (hbt.block _ (by omega)).trans HYZ.out.1
          have hm4 : w4.heap[w.heap.size + 1]? = some (.cells #[.int .i64 0, .int .i64 0] 29 (0, 0)) := (hbt.block _ (by omega)).trans HYZ.out.2
          have HRN : Hid (Par.readE s.data.toList = .no 1 (atP s.size (l.drop k))) := by
            show _ = _
            rw [HRD.out]
            unfold Par.restR
            rw [if_neg]
            simp
            omega
          clear hwr hg4 ht4 hbt
          have n1 := lt_of_block hn4
          have n2 := lt_of_block hm4
          have HN4 : Hid (w4.heap[w.heap.size]? = some (.cells ZE 26 (0, 0)) ∧ w4.heap[w.heap.size + 1]? = some (.cells #[.int .i64 0, .int .i64 0] 29 (0, 0))) := ⟨hn4, hm4⟩
          unfold ZE at hn4
          obtain ⟨⟨r0, r1, r2, r3, r4, r5, r6⟩, e0, e1, e2, e3, e4, e5, e6⟩ := blkE hn4
          obtain ⟨⟨g0, g1⟩, f0, f1⟩ : (w4.cell? ⟨w.heap.size + 1, 0, none⟩ = some (.int .i64 0) ∧ w4.cell? ⟨w.heap.size + 1, 1, none⟩ = some (.int .i64 0)) ∧ w4.frozen? ⟨w.heap.size + 1, 0, none⟩ = false ∧ w4.frozen? ⟨w.heap.size + 1, 1, none⟩ = false := by refine ⟨⟨?_, ?_⟩, ?_, ?_⟩ <;> simp [World.cell?, World.frozen?, hm4]
          clear hn4 hm4
          go_wp2
          go_region
          all_goals (try go_wp2)
          have hz := HN4.out.1
          unfold ZE at hz
          obtain ⟨k1, k2, k3, k4⟩ := fin9 (a0 := .int .i64 0) (a1 := .int .i64 0) (a2 := .int .i64 0) (a3 := .int .i64 0) (a4 := .string ⟨#[]⟩) (a5 := .slice none 0 0) (a6 := .slice none 0 0) (b0 := .int .i64 1) (b1 := .int .i64 (atP s.size (l.drop k) : Int)) hz HN4.out.2 HB4.out
          refine xdoor k2 k3 ?_ ?_ ⟨k1.drew, .inr ⟨1, _, HRN.out, rfl⟩⟩
          · rfl
          · rfl
      · have dk : decide ((k : Int) < (l.length : Int)) = false := by simp; omega
        go_upto_region 6 with fail
        rw [← HYW.out]
        go_cut [44] (fun s44 wc => s44 = .bool false ∧ Hid (Below wy.heap.size wy wc))
        case first =>
          go_quiet ((fail))
          go_wp2_with fail
          go_meet
          exact ⟨rfl, ⟨rfl, rfl, rfl, Nat.le_refl _, fun _ _ => rfl⟩⟩
        case rest =>
          obtain ⟨rfl, HBc⟩ := hcut
          have HB4 : Hid (Below w.heap.size w wc) := HYB.out.trans (HBc.out.mono HYB.out.size)
          have hc4 := HBc.out.size
          have ly := lt_of_block HYY.out
          have hn4 : wc.heap[w.heap.size]? = some (.cells ZE 26 (0, 0)) := (HBc.out.block _ (by omega)).trans HYZ.out.1
          have hm4 : wc.heap[w.heap.size + 1]? = some (.cells #[.int .i64 0, .int .i64 0] 29 (0, 0)) := (HBc.out.block _ (by omega)).trans HYZ.out.2
          have hy4 := (HBc.out.block _ ly).trans HYY.out
          have ly4 := lt_of_block hy4
          obtain ⟨⟨y0, y1, y2, y3, y4, y5, y6⟩, _⟩ := blkE hy4
          have HRN : Hid (Par.readE s.data.toList = .ok a []) := by
            show _ = _
            rw [HRD.out]
            unfold Par.restR
            rw [if_pos]
            simp
            omega
          have HTC : Hid (TrIs wc (fun b => tb + 1 ≤ b) a #[.int .i64 z0, .int .i64 z1, .int .i64 z2, .int .i64 z3, .string z4, .slice z5 m5 d5, .slice z6 m6 d6].toList) := HTR.out.keeps (Keeps.of_below HBc.out)
          have htc := HTY.out.later HBc.out
          clear q0 q1 q2 q3 q4 q5 q6
          obtain ⟨q0, q1, q2, q3, q4, q5, q6⟩ := htc.cells
          have ltc := htc.lt
          clear htc hy4
          have n1 := lt_of_block hn4
          have n2 := lt_of_block hm4
          have HN4 : Hid (wc.heap[w.heap.size]? = some (.cells ZE 26 (0, 0)) ∧ wc.heap[w.heap.size + 1]? = some (.cells #[.int .i64 0, .int .i64 0] 29 (0, 0))) := ⟨hn4, hm4⟩
          unfold ZE at hn4
          obtain ⟨⟨r0, r1, r2, r3, r4, r5, r6⟩, e0, e1, e2, e3, e4, e5, e6⟩ := blkE hn4
          obtain ⟨⟨g0, g1⟩, f0, f1⟩ : (wc.cell? ⟨w.heap.size + 1, 0, none⟩ = some (.int .i64 0) ∧ wc.cell? ⟨w.heap.size + 1, 1, none⟩ = some (.int .i64 0)) ∧ wc.frozen? ⟨w.heap.size + 1, 0, none⟩ = false ∧ wc.frozen? ⟨w.heap.size + 1, 1, none⟩ = false := by refine ⟨⟨?_, ?_⟩, ?_, ?_⟩ <;> simp [World.cell?, World.frozen?, hm4]
          clear hn4 hm4
          go_wp2
          go_region
          all_goals (try go_wp2)
          have hz := HN4.out.1
          unfold ZE at hz
          obtain ⟨k1, k2, k3, k4⟩ := fin9 (a0 := .int .i64 z0) (a1 := .int .i64 z1) (a2 := .int .i64 z2) (a3 := .int .i64 z3) (a4 := .string z4) (a5 := .slice z5 m5 d5) (a6 := .slice z6 m6 d6) (b0 := .int .i64 0) (b1 := .int .i64 0) hz HN4.out.2 HB4.out
          have ht := (HTC.out.keeps ⟨by simp [World.setCell], fun b hb _ => k4 b (by omega) (by omega)⟩).mono (S' := fun b => w.heap.size ≤ b) fun b hb _ => by omega
          refine xdoor_ok k1 k2 k3 ?_ ?_ HRN.out ht
          · rfl
          · rfl
    · have HTY : Hid (Tx wy tb s.size l (.slice ao l.length cap) l.length c (q : Int) 0 0) := h3.later HBY.out
      have HRN : Hid (Par.readE s.data.toList = .no c q) := by show _ = _; rw [HRE.out]; have h9 : Par.exprR s.size 12 l = .no c q := h1; rw [h9]; rfl
      have bq : (c == 0) = false := by simpa using h2
      have bc : (c != 0) = true := by simpa using h2
      clear h1 h2 h3 HRE HBY
      obtain ⟨q0, q1, q2, q3, q4, q5, q6⟩ := HTY.out.cells
      have ltb := HTY.out.lt
      go_upto_region 6 with fail
      rw [← HYW.out]
      go_cut [44] (fun s44 wc => s44 = .bool false ∧ Hid (Below wy.heap.size wy wc))
      case first =>
        go_quiet ((fail))
        go_wp2_with fail
        go_meet
        exact ⟨rfl, ⟨rfl, rfl, rfl, Nat.le_refl _, fun _ _ => rfl⟩⟩
      case rest =>
        obtain ⟨rfl, HBc⟩ := hcut
        have HB4 : Hid (Below w.heap.size w wc) := HYB.out.trans (HBc.out.mono HYB.out.size)
        have hc4 := HBc.out.size
        have ly := lt_of_block HYY.out
        have hn4 : wc.heap[w.heap.size]? = some (.cells ZE 26 (0, 0)) := (HBc.out.block _ (by omega)).trans HYZ.out.1
        have hm4 : wc.heap[w.heap.size + 1]? = some (.cells #[.int .i64 0, .int .i64 0] 29 (0, 0)) := (HBc.out.block _ (by omega)).trans HYZ.out.2
        have htc := HTY.out.later HBc.out
        clear q0 q1 q2 q3 q4 q5 q6
        obtain ⟨q0, q1, q2, q3, q4, q5, q6⟩ := htc.cells
        have ltc := htc.lt
        clear htc
        have n1 := lt_of_block hn4
        have n2 := lt_of_block hm4
        have HN4 : Hid (wc.heap[w.heap.size]? = some (.cells ZE 26 (0, 0)) ∧ wc.heap[w.heap.size + 1]? = some (.cells #[.int .i64 0, .int .i64 0] 29 (0, 0))) := ⟨hn4, hm4⟩
        unfold ZE at hn4
        obtain ⟨⟨r0, r1, r2, r3, r4, r5, r6⟩, e0, e1, e2, e3, e4, e5, e6⟩ := blkE hn4
        obtain ⟨⟨g0, g1⟩, f0, f1⟩ : (wc.cell? ⟨w.heap.size + 1, 0, none⟩ = some (.int .i64 0) ∧ wc.cell? ⟨w.heap.size + 1, 1, none⟩ = some (.int .i64 0)) ∧ wc.frozen? ⟨w.heap.size + 1, 0, none⟩ = false ∧ wc.frozen? ⟨w.heap.size + 1, 1, none⟩ = false := by refine ⟨⟨?_, ?_⟩, ?_, ?_⟩ <;> simp [World.cell?, World.frozen?, hm4]
        clear hn4 hm4
        go_wp2
        go_region
        all_goals (try go_wp2)
        have hz := HN4.out.1
        unfold ZE at hz
        obtain ⟨k1, k2, k3, k4⟩ := fin9 (a0 := .int .i64 0) (a1 := .int .i64 0) (a2 := .int .i64 0) (a3 := .int .i64 0) (a4 := .string ⟨#[]⟩) (a5 := .slice none 0 0) (a6 := .slice none 0 0) (b0 := .int .i64 c) (b1 := .int .i64 (q : Int)) hz HN4.out.2 HB4.out
        refine xdoor k2 k3 ?_ ?_ ⟨k1.drew, .inr ⟨c, q, HRN.out, rfl⟩⟩
        · rfl
        · rfl
  · have bc : (c != 0) = true := by simpa using hc
    have hfw : ((w1.setCell ⟨w.heap.size + 1, 0, none⟩ (.int .i64 c)).setCell ⟨w.heap.size + 1, 1, none⟩ (.int .i64 (q : Int))).heap[w.heap.size + 1]? = some (.cells #[.int .i64 c, .int .i64 (q : Int)] 29 (0, 0)) := by simp [World.setCell, Array.getElem?_modify, HR1.out.2]
    have HFW : Hid (((w1.setCell ⟨w.heap.size + 1, 0, none⟩ (.int .i64 c)).setCell ⟨w.heap.size + 1, 1, none⟩ (.int .i64 (q : Int))).heap[w.heap.size + 1]? = some (.cells #[.int .i64 c, .int .i64 (q : Int)] 29 (0, 0))) := hfw
    have HZW : Hid (((w1.setCell ⟨w.heap.size + 1, 0, none⟩ (.int .i64 c)).setCell ⟨w.heap.size + 1, 1, none⟩ (.int .i64 (q : Int))).heap[w.heap.size]? = some (.cells ZE 26 (0, 0))) := heap_past_set (heap_past_set HR1.out.1 (by simp)) (by simp)
    have HBW : Hid (Below w.heap.size w ((w1.setCell ⟨w.heap.size + 1, 0, none⟩ (.int .i64 c)).setCell ⟨w.heap.size + 1, 1, none⟩ (.int .i64 (q : Int)))) := (HB1.out.setCell (by simp) _).setCell (by simp) _
    have HRN : Hid (Par.readE s.data.toList = .no c q) := Par.whole_scan HS.out hc
    clear hfw
    go_wp2
    go_region
    all_goals (try go_wp2)
    have hz := HZW.out
    unfold ZE at hz
    obtain ⟨k1, k2, k3, k4⟩ := fin9 (a0 := .int .i64 0) (a1 := .int .i64 0) (a2 := .int .i64 0) (a3 := .int .i64 0) (a4 := .string ⟨#[]⟩) (a5 := .slice none 0 0) (a6 := .slice none 0 0) (b0 := .int .i64 c) (b1 := .int .i64 (q : Int)) hz HFW.out HBW.out
    refine xdoor k2 k3 ?_ ?_ ⟨k1.drew, .inr ⟨c, q, HRN.out, rfl⟩⟩
    · rfl
    · rfl
end Go.Proofs.YtcdeicfegfedfaaGreatDoor

namespace Go.Proofs.YtcdeicfegfedfaaGreatDoor
open Go.RowKit
open Par (Tok Tr Po Res nx atP isT seesB ba)

def Par.readL (l : List UInt8) : Res (List Po) := Par.wholeF (fun e => Par.labelR e) l
def LPost (w : World) (res : Res (List Po)) (x : Ending) (w' : World) : Prop :=
  Below w.heap.size w w' ∧ ((∃ l, res = .ok l [] ∧ ∃ (lo : Option Addr) (ln lc : Nat), x = .returned (.tuple #[.slice lo ln lc, .agg #[.int .i64 0, .int .i64 0]]) ∧ LabV w' (fun b => w.heap.size ≤ b) (.slice lo ln lc) l) ∨
    (∃ c q, res = .no c q ∧ x = .returned (.tuple #[.slice none 0 0, .agg #[.int .i64 c, .int .i64 ((q : Nat) : Int)]])))
theorem fin2 {w wz : World} {n : Nat} {y0 y1 : Int} {e : TypeId} (hf : wz.heap[n]? = some (.cells #[.int .i64 y0, .int .i64 y1] e (0, 0))) {b0 b1 : Value} (hB : Below n w wz) :
    Below n w ((wz.setCell ⟨n, 0, none⟩ b0).setCell ⟨n, 1, none⟩ b1) ∧ ((wz.setCell ⟨n, 0, none⟩ b0).setCell ⟨n, 1, none⟩ b1).heap[n]? = some (.cells #[b0, b1] e (0, 0)) ∧ ∀ b, b ≠ n → ((wz.setCell ⟨n, 0, none⟩ b0).setCell ⟨n, 1, none⟩ b1).heap[b]? = wz.heap[b]? := by
  refine ⟨?_, by simp [World.setCell, Array.getElem?_modify, hf], fun b h => ?_⟩
  · iterate 2 refine Below.setCell ?_ (by simp) _
    exact hB
  · iterate 2 rw [Below.heap_setCell _ _ _ _ h]
theorem ldoor {w wz : World} {tm : Array Value} {res : Res (List Po)} {lo : Option Addr} {ln lc : Nat} {c q : Int} (hf : wz.heap[w.heap.size]? = some (.cells #[.int .i64 c, .int .i64 q] 29 (0, 0)))
    (h4 : tm[4]? = some (.slice lo ln lc)) (h5 : tm[5]? = some (.pointer (some ⟨w.heap.size, 0, none⟩))) (hp : LPost w res (.returned (.tuple #[.slice lo ln lc, .agg #[.int .i64 c, .int .i64 q]])) wz.drew) :
    bodyPost Tryz.prog Tryz.f20 (LPost w res) .ret { tmps := tm, defers := [] } wz.drew := by
  have e0 : wz.cell? ⟨w.heap.size, 0, none⟩ = some (.int .i64 c) := by simp [World.cell?, hf]
  have e1 : wz.cell? ⟨w.heap.size, 1, none⟩ = some (.int .i64 q) := by simp [World.cell?, hf]
  exact bodyPost_ret (v := .tuple #[.slice lo ln lc, .agg #[.int .i64 c, .int .i64 q]]) (by simp [results, Tryz.results20, go_sem, h4, h5, e0, e1]) rfl hp
theorem ldoor_ok {w wz : World} {tm : Array Value} {res : Res (List Po)} {l : List Po} {lo : Option Addr} {ln lc : Nat} (hb : Below w.heap.size w wz) (hf : wz.heap[w.heap.size]? = some (.cells #[.int .i64 0, .int .i64 0] 29 (0, 0)))
    (h4 : tm[4]? = some (.slice lo ln lc)) (h5 : tm[5]? = some (.pointer (some ⟨w.heap.size, 0, none⟩))) (hr : res = .ok l []) (ht : LabV wz (fun b => w.heap.size ≤ b) (.slice lo ln lc) l) :
    bodyPost Tryz.prog Tryz.f20 (LPost w res) .ret { tmps := tm, defers := [] } wz.drew :=
  ldoor hf h4 h5 ⟨hb.drew, .inl ⟨l, hr, _, _, _, rfl, ht.keeps ⟨Nat.le_refl _, fun _ _ _ => rfl⟩⟩⟩
theorem ldoor_no {w wz : World} {tm : Array Value} {res : Res (List Po)} {c : Int} {q : Nat} (hb : Below w.heap.size w wz) (hf : wz.heap[w.heap.size]? = some (.cells #[.int .i64 c, .int .i64 (q : Int)] 29 (0, 0)))
    (h4 : tm[4]? = some (.slice none 0 0)) (h5 : tm[5]? = some (.pointer (some ⟨w.heap.size, 0, none⟩))) (hr : res = .no c q) :
    bodyPost Tryz.prog Tryz.f20 (LPost w res) .ret { tmps := tm, defers := [] } wz.drew :=
  ldoor hf h4 h5 ⟨hb.drew, .inr ⟨c, q, hr, rfl⟩⟩
set_option maxRecDepth 100000 in
set_option maxHeartbeats 8000000 in
theorem readLB (s : ByteArray) (w : World) (hs : s.size ≤ 140737488351232) (hk : TkW w) :
    Calls Tryz.prog 20 #[.string s, .func (.func 21) #[] #[]] w (LPost w (Par.readL s.data.toList)) := by
  have hmf : ∀ (fn : Fn) (first cap : Array Value) (w : World), (Instr.makeFunc fn first cap).run Tryz.prog w = .ok (.func fn first cap) w := fun _ _ _ _ => rfl
  have eg : ∀ args w, (callFunc 21 args).run Tryz.prog w = .ok (.enter 21 args) w := enters_of Tryz.func21 (by kernel_rfl) rfl
  obtain ⟨w0, hw0⟩ : ∃ w0, w0 = w.alloc (.cells #[.int .i64 0, .int .i64 0] 29) := ⟨_, rfl⟩
  have hbel : Below w.heap.size w w0 := by rw [hw0]; exact (Below.refl _ _).alloc (Nat.le_refl _) _
  have hs0 : w0.heap.size = w.heap.size + 1 := by rw [hw0]; simp
  have hfau : w0.heap[w.heap.size]? = some (.cells #[.int .i64 0, .int .i64 0] 29 (0, 0)) := by rw [hw0]; exact heap_at_alloc _ _ _ rfl
  have hk0 := hk.later hbel
  obtain ⟨mx, hmx⟩ := hk0.1
  have HSC := tokens_any s mx w0 hs hmx (hk0.2 w0 (Below.refl _ _))
  have HB : Hid (Below w.heap.size w w0) := hbel
  have HR : Hid (w0.heap[w.heap.size]? = some (.cells #[.int .i64 0, .int .i64 0] 29 (0, 0))) := hfau
  clear hbel hfau hk hk0 hmx
  go_enter Tryz.func20, Tryz.ntmps20
  go_wp2_with fail
  rw [← hw0]
  clear hw0
  refine HSC.mono ?_
  rintro e w1 ⟨v, l, c, q, rfl, hsc, hown, hb1⟩
  obtain ⟨ao, cap, rfl⟩ := slice_of hown
  have hz1 := hb1.size
  have hf1 : w1.heap[w.heap.size]? = some (.cells #[.int .i64 0, .int .i64 0] 29 (0, 0)) := (hb1.block _ (by omega)).trans HR.out
  have HB1 : Hid (Below w.heap.size w w1) := HB.out.trans (hb1.mono (by omega))
  have HO : Hid (w1.ownsRow w0.heap.size 80 3 (.slice ao l.length cap) l.length (Lex.cellsOf l)) := hown
  have HS : Hid (Lex.scanAll s.data.toList = (l, c, q)) := hsc
  have HR1 : Hid (w1.heap[w.heap.size]? = some (.cells #[.int .i64 0, .int .i64 0] 29 (0, 0))) := hf1
  have l1 := lt_of_block hf1
  obtain ⟨⟨g0, g1⟩, f0, f1⟩ : (w1.cell? ⟨w.heap.size, 0, none⟩ = some (.int .i64 0) ∧ w1.cell? ⟨w.heap.size, 1, none⟩ = some (.int .i64 0)) ∧ w1.frozen? ⟨w.heap.size, 0, none⟩ = false ∧ w1.frozen? ⟨w.heap.size, 1, none⟩ = false := by refine ⟨⟨?_, ?_⟩, ?_, ?_⟩ <;> simp [World.cell?, World.frozen?, hf1]
  clear hb1 hown hsc hf1 HSC HB HR
  by_cases hc : c = 0
  · subst hc
    obtain rfl := Lex.scan_zero HS.out
    obtain ⟨hfr, h600, h4000⟩ := Lex.all_from HS.out
    rw [Lex.len_of] at h4000
    obtain ⟨w1', hw1'⟩ : ∃ w1', w1' = (w1.setCell ⟨w.heap.size, 0, none⟩ (.int .i64 0)).setCell ⟨w.heap.size, 1, none⟩ (.int .i64 0) := ⟨_, rfl⟩
    have hz1' : w1'.heap.size = w1.heap.size := by rw [hw1']; simp [World.setCell]
    have hb1' : Below w.heap.size w w1' := by rw [hw1']; exact (HB1.out.setCell (by simp) _).setCell (by simp) _
    have hown' : w1'.ownsRow w0.heap.size 80 3 (.slice ao l.length cap) l.length (Lex.cellsOf l) := by rw [hw1']; exact ownsRow_setCell_below (ownsRow_setCell_below HO.out (by show w.heap.size < _; omega) _) (by show w.heap.size < _; omega) _
    have htx := tx_new (e := s.size) h4000 hown' HS.out
    have hff : w1'.heap[w.heap.size]? = some (.cells #[.int .i64 0, .int .i64 0] 29 (0, 0)) := by rw [hw1']; simp [World.setCell, Array.getElem?_modify, HR1.out]
    obtain ⟨wb, hwb⟩ : ∃ wb, wb = w1'.alloc (.cells #[.slice ao l.length cap, .int .i64 0, .int .i64 (s.size : Int), .int .i64 0, .int .i64 0, .int .i64 0, .int .i64 0] 78) := ⟨_, rfl⟩
    rw [← hwb] at htx
    have hbb : Below w.heap.size w wb := by rw [hwb]; exact hb1'.alloc (by omega) _
    have hsb : wb.heap.size = w1.heap.size + 1 := by rw [← hz1', hwb]; exact Array.size_push _
    have HZB : Hid (wb.heap[w.heap.size]? = some (.cells #[.int .i64 0, .int .i64 0] 29 (0, 0))) := by rw [hwb]; exact heap_past_alloc hff
    have HBB : Hid (Below w.heap.size w wb) := hbb
    obtain ⟨tb, htb⟩ : ∃ tb, tb = w1.heap.size := ⟨_, rfl⟩
    have HTX : Hid (Tx wb tb s.size l (.slice ao l.length cap) 0 0 0 0 0) := by rw [htb, ← hz1']; exact htx
    have hgd : Par.Good l := fun t ht => Lex.scan_good HS.out t ht
    have hsh : Short l := fun t ht => by
      have h9 := (hfr t ht).2.2.2
      rw [Lex.len_of] at h9
      have e9 : (ba t.2.2).size = t.2.2.length := by simp [ba, ByteArray.size]
      rw [e9]; unfold maxLen; omega
    have hex := labelD hgd hsh HTX.out
    have HRE : Hid (Par.readL s.data.toList = (Par.labelR s.size l).bind fun a r => Par.restR s.size a r) := by
      have := Par.whole_read (R := fun e => Par.labelR e) HS.out
      rw [Lex.len_of] at this
      exact this
    rw [hw1'] at hwb
    have htbn : w.heap.size + 1 ≤ tb := by omega
    have hsb2 : wb.heap.size = tb + 1 := by omega
    have htbw : tb < wb.heap.size := by omega
    clear hz1' hb1' hown' htx hff hw1' hbb hgd hsh hfr
    go_wp2_with fail
    rw [← hwb, ← htb]
    clear hwb htb hsb g0 g1 f0 f1
    refine hex.mono ?_
    rintro x9 w2 ⟨hg2, hcs⟩
    have hs2 := hg2.size
    have hbw2 : Below tb wb w2 := ⟨hg2.os, hg2.tape, hg2.output, hg2.size, fun j hj => hg2.block j (by omega) (by simp; omega)⟩
    have HYB : Hid (Below w.heap.size w w2) := HBB.out.trans (hbw2.mono (by omega))
    have HYZ : Hid (w2.heap[w.heap.size]? = some (.cells #[.int .i64 0, .int .i64 0] 29 (0, 0))) := (hbw2.block _ (by omega)).trans HZB.out
    clear hex hbw2 hg2
    rcases hcs with ⟨a, k, p, u, h1, h2, h3, h4⟩ | ⟨c, q, u, h1, h2, ⟨lo, ln, lc, rfl⟩, h3, h4⟩
    · obtain ⟨lo, lc, rfl⟩ := h3.slice
      obtain ⟨ln, hln⟩ : ∃ ln, ln = a.length := ⟨_, rfl⟩
      have hlab := h3.label
      rw [← hln] at h2 hlab
      subst h2
      have HTY : Hid (Tx w2 tb s.size l (.slice ao l.length cap) k 0 p 0 0) := h4
      have HTR : Hid (LabV w2 (fun b => tb + 1 ≤ b) (.slice lo ln lc) a) := hlab.mono fun b hb _ => by omega
      have HRD : Hid (Par.readL s.data.toList = Par.restR s.size a (l.drop k)) := by show _ = _; rw [HRE.out]; have h9 : Par.labelR s.size l = .ok a (l.drop k) := h1; rw [h9]; rfl
      clear h1 h3 h4 hlab hln HRE
      obtain ⟨q0, q1, q2, q3, q4, q5, q6⟩ := HTY.out.cells
      have ltb := HTY.out.lt
      by_cases hkl : k < l.length
      · have dk : decide ((k : Int) < (l.length : Int)) = true := by simp; omega
        go_upto_region 6 with fail
        go_cut [44] (fun s44 wc => s44 = .bool true ∧ Hid (Below w2.heap.size w2 wc))
        case first =>
          go_quiet ((fail))
          go_wp2_with fail
          go_meet
          exact ⟨rfl, ⟨rfl, rfl, rfl, Nat.le_refl _, fun _ _ => rfl⟩⟩
        case rest =>
          obtain ⟨rfl, HBc⟩ := hcut
          have hwr := wrongD 1 (HTY.out.later HBc.out)
          clear q0 q1 q2 q3 q4 q5 q6
          go_wp2_with fail
          refine hwr.mono ?_
          rintro x4 w4 ⟨rfl, hw4⟩
          obtain ⟨hg4, ht4⟩ := hw4
          rw [if_pos rfl, if_pos rfl] at ht4
          obtain ⟨q0, q1, q2, q3, q4, q5, q6⟩ := ht4.cells
          have lt4 := ht4.lt
          have hc4 := HBc.out.size
          have hbt : Below tb w2 w4 := by
            refine Below.trans (HBc.out.mono (by omega)) ?_
            exact ⟨hg4.os, hg4.tape, hg4.output, hg4.size, fun j hj => hg4.block j (by omega) (by simp; omega)⟩
          have HB4 : Hid (Below w.heap.size w w4) := HYB.out.trans (hbt.mono (by omega))
          have hm4 : w4.heap[w.heap.size]? = some (.cells #[.int .i64 0, .int .i64 0] 29 (0, 0)) := (hbt.block _ (by omega)).trans HYZ.out
          have HRN : Hid (Par.readL s.data.toList = .no 1 (atP s.size (l.drop k))) := by
            show _ = _
            rw [HRD.out]
            unfold Par.restR
            rw [if_neg]
            simp
            omega
          clear hwr hg4 ht4 hbt
          have n2 := lt_of_block hm4
          have HN4 : Hid (w4.heap[w.heap.size]? = some (.cells #[.int .i64 0, .int .i64 0] 29 (0, 0))) := hm4
          obtain ⟨⟨g0, g1⟩, f0, f1⟩ : (w4.cell? ⟨w.heap.size, 0, none⟩ = some (.int .i64 0) ∧ w4.cell? ⟨w.heap.size, 1, none⟩ = some (.int .i64 0)) ∧ w4.frozen? ⟨w.heap.size, 0, none⟩ = false ∧ w4.frozen? ⟨w.heap.size, 1, none⟩ = false := by refine ⟨⟨?_, ?_⟩, ?_, ?_⟩ <;> simp [World.cell?, World.frozen?, hm4]
          clear hm4
          go_wp2
          go_region
          all_goals (try go_wp2)
          obtain ⟨k1, k2, k4⟩ := fin2 (b0 := .int .i64 1) (b1 := .int .i64 (atP s.size (l.drop k) : Int)) HN4.out HB4.out
          refine ldoor_no (c := 1) k1 k2 ?_ ?_ HRN.out
          · rfl
          · rfl
      · have dk : decide ((k : Int) < (l.length : Int)) = false := by simp; omega
        go_upto_region 6 with fail
        go_cut [44] (fun s44 wc => s44 = .bool false ∧ Hid (Below w2.heap.size w2 wc))
        case first =>
          go_quiet ((fail))
          go_wp2_with fail
          go_meet
          exact ⟨rfl, ⟨rfl, rfl, rfl, Nat.le_refl _, fun _ _ => rfl⟩⟩
        case rest =>
          obtain ⟨rfl, HBc⟩ := hcut
          have HB4 : Hid (Below w.heap.size w wc) := HYB.out.trans (HBc.out.mono HYB.out.size)
          have hc4 := HBc.out.size
          have hm4 : wc.heap[w.heap.size]? = some (.cells #[.int .i64 0, .int .i64 0] 29 (0, 0)) := (HBc.out.block _ (by omega)).trans HYZ.out
          have HRN : Hid (Par.readL s.data.toList = .ok a []) := by
            show _ = _
            rw [HRD.out]
            unfold Par.restR
            rw [if_pos]
            simp
            omega
          have HTC : Hid (LabV wc (fun b => tb + 1 ≤ b) (.slice lo ln lc) a) := HTR.out.keeps (Keeps.of_below HBc.out)
          have htc := HTY.out.later HBc.out
          clear q0 q1 q2 q3 q4 q5 q6
          obtain ⟨q0, q1, q2, q3, q4, q5, q6⟩ := htc.cells
          have ltc := htc.lt
          clear htc
          have n2 := lt_of_block hm4
          have HN4 : Hid (wc.heap[w.heap.size]? = some (.cells #[.int .i64 0, .int .i64 0] 29 (0, 0))) := hm4
          obtain ⟨⟨g0, g1⟩, f0, f1⟩ : (wc.cell? ⟨w.heap.size, 0, none⟩ = some (.int .i64 0) ∧ wc.cell? ⟨w.heap.size, 1, none⟩ = some (.int .i64 0)) ∧ wc.frozen? ⟨w.heap.size, 0, none⟩ = false ∧ wc.frozen? ⟨w.heap.size, 1, none⟩ = false := by refine ⟨⟨?_, ?_⟩, ?_, ?_⟩ <;> simp [World.cell?, World.frozen?, hm4]
          clear hm4
          go_wp2
          go_region
          all_goals (try go_wp2)
          obtain ⟨k1, k2, k4⟩ := fin2 (b0 := .int .i64 0) (b1 := .int .i64 0) HN4.out HB4.out
          have ht := (HTC.out.keeps ⟨by simp [World.setCell], fun b hb _ => k4 b (by omega)⟩).mono (S' := fun b => w.heap.size ≤ b) fun b hb _ => by omega
          refine ldoor_ok k1 k2 ?_ ?_ HRN.out ht
          · rfl
          · rfl
    · subst h2
      have HTY : Hid (Tx w2 tb s.size l (.slice ao l.length cap) l.length c (q : Int) 0 0) := h4
      have HRN : Hid (Par.readL s.data.toList = .no c q) := by show _ = _; rw [HRE.out]; have h9 : Par.labelR s.size l = .no c q := h1; rw [h9]; rfl
      have bq : (c == 0) = false := by simpa using h3
      have bc : (c != 0) = true := by simpa using h3
      clear h1 h3 h4 HRE
      obtain ⟨q0, q1, q2, q3, q4, q5, q6⟩ := HTY.out.cells
      have ltb := HTY.out.lt
      go_upto_region 6 with fail
      go_cut [44] (fun s44 wc => s44 = .bool false ∧ Hid (Below w2.heap.size w2 wc))
      case first =>
        go_quiet ((fail))
        go_wp2_with fail
        go_meet
        exact ⟨rfl, ⟨rfl, rfl, rfl, Nat.le_refl _, fun _ _ => rfl⟩⟩
      case rest =>
        obtain ⟨rfl, HBc⟩ := hcut
        have HB4 : Hid (Below w.heap.size w wc) := HYB.out.trans (HBc.out.mono HYB.out.size)
        have hc4 := HBc.out.size
        have hm4 : wc.heap[w.heap.size]? = some (.cells #[.int .i64 0, .int .i64 0] 29 (0, 0)) := (HBc.out.block _ (by omega)).trans HYZ.out
        have htc := HTY.out.later HBc.out
        clear q0 q1 q2 q3 q4 q5 q6
        obtain ⟨q0, q1, q2, q3, q4, q5, q6⟩ := htc.cells
        have ltc := htc.lt
        clear htc
        have n2 := lt_of_block hm4
        have HN4 : Hid (wc.heap[w.heap.size]? = some (.cells #[.int .i64 0, .int .i64 0] 29 (0, 0))) := hm4
        obtain ⟨⟨g0, g1⟩, f0, f1⟩ : (wc.cell? ⟨w.heap.size, 0, none⟩ = some (.int .i64 0) ∧ wc.cell? ⟨w.heap.size, 1, none⟩ = some (.int .i64 0)) ∧ wc.frozen? ⟨w.heap.size, 0, none⟩ = false ∧ wc.frozen? ⟨w.heap.size, 1, none⟩ = false := by refine ⟨⟨?_, ?_⟩, ?_, ?_⟩ <;> simp [World.cell?, World.frozen?, hm4]
        clear hm4
        go_wp2
        go_region
        all_goals (try go_wp2)
        obtain ⟨k1, k2, k4⟩ := fin2 (b0 := .int .i64 c) (b1 := .int .i64 (q : Int)) HN4.out HB4.out
        refine ldoor_no k1 k2 ?_ ?_ HRN.out
        · rfl
        · rfl
  · have bc : (c != 0) = true := by simpa using hc
    have HFW : Hid (((w1.setCell ⟨w.heap.size, 0, none⟩ (.int .i64 c)).setCell ⟨w.heap.size, 1, none⟩ (.int .i64 (q : Int))).heap[w.heap.size]? = some (.cells #[.int .i64 c, .int .i64 (q : Int)] 29 (0, 0))) := by show _ = _; simp [World.setCell, Array.getElem?_modify, HR1.out]
    have HBW : Hid (Below w.heap.size w ((w1.setCell ⟨w.heap.size, 0, none⟩ (.int .i64 c)).setCell ⟨w.heap.size, 1, none⟩ (.int .i64 (q : Int)))) := (HB1.out.setCell (by simp) _).setCell (by simp) _
    have HRN : Hid (Par.readL s.data.toList = .no c q) := Par.whole_scan HS.out hc
    go_wp2
    go_region
    all_goals (try go_wp2)
    obtain ⟨k1, k2, k4⟩ := fin2 (b0 := .int .i64 c) (b1 := .int .i64 (q : Int)) HFW.out HBW.out
    refine ldoor_no k1 k2 ?_ ?_ HRN.out
    · rfl
    · rfl
end Go.Proofs.YtcdeicfegfedfaaGreatDoor

namespace Go.Proofs.YtcdeicfegfedfaaGreatDoor
open Go.RowKit
open Par (Tok Tr Po Res nx atP isT seesB ba)

def catchDL (fb : Nat) : Deferred := { target := .fn (.func 33) #[.pointer (some ⟨fb, 0, none⟩)], args := #[] }
theorem vdoor_no {w wz : World} {tm : Array Value} {res : Res (List Po)} {c y0 y1 : Int} {q : Nat} (hb : Below w.heap.size w wz) (hf : wz.heap[w.heap.size]? = some (.cells #[.int .i64 y0, .int .i64 y1] 29 (0, 0)))
    (h4 : tm[4]? = some (.slice none 0 0)) (h5 : tm[5]? = some (.pointer (some ⟨w.heap.size, 0, none⟩))) (hr : res = .no c q) :
    Leaves Tryz.prog Tryz.f15 tm (LPost w res) [catchDL w.heap.size] (.panicking [{ v := stopV c q, recovered := false }]) wz := by
  refine leaves_cons (f := 33) (args := #[.pointer (some ⟨w.heap.size, 0, none⟩)]) (by simp) (by simp [go_sem]) ?_
  refine (catchL_stop w.heap.size c q wz hf).mono ?_
  rintro x u' w'' ⟨rfl, rfl, hn, hg⟩
  have e0 : w''.cell? ⟨w.heap.size, 0, none⟩ = some (.int .i64 c) := by simp [World.cell?, hn]
  have e1 : w''.cell? ⟨w.heap.size, 1, none⟩ = some (.int .i64 (q : Int)) := by simp [World.cell?, hn]
  exact ⟨.tuple #[.slice none 0 0, .agg #[.int .i64 c, .int .i64 (q : Int)]], by simp [results, Tryz.results15, go_sem, h4, h5, e0, e1], ⟨hg.os.trans hb.os, hg.tape.trans hb.tape, hg.output.trans hb.output, Nat.le_trans hb.size hg.size, fun k hk => (hg.block k (by have := hb.size; omega) (by simp; omega)).trans (hb.block k hk)⟩, .inr ⟨c, q, hr, rfl⟩⟩
theorem vdoor_ok {w wz : World} {tm : Array Value} {res : Res (List Po)} {l : List Po} {lo : Option Addr} {ln lc : Nat} (hb : Below w.heap.size w wz) (hf : wz.heap[w.heap.size]? = some (.cells #[.int .i64 0, .int .i64 0] 29 (0, 0)))
    (h4 : tm[4]? = some (.slice lo ln lc)) (h5 : tm[5]? = some (.pointer (some ⟨w.heap.size, 0, none⟩))) (hr : res = .ok l []) (ht : LabV wz (fun b => w.heap.size ≤ b) (.slice lo ln lc) l) :
    Leaves Tryz.prog Tryz.f15 tm (LPost w res) [catchDL w.heap.size] .returning wz := by
  refine leaves_cons (f := 33) (args := #[.pointer (some ⟨w.heap.size, 0, none⟩)]) (by simp) (by simp [go_sem]) ?_
  refine (catchL_idle ⟨w.heap.size, 0, none⟩ wz).mono ?_
  rintro x u' w'' ⟨rfl, rfl, hw⟩
  subst hw
  have e0 : w''.cell? ⟨w.heap.size, 0, none⟩ = some (.int .i64 0) := by simp [World.cell?, hf]
  have e1 : w''.cell? ⟨w.heap.size, 1, none⟩ = some (.int .i64 0) := by simp [World.cell?, hf]
  exact ⟨.tuple #[.slice lo ln lc, .agg #[.int .i64 0, .int .i64 0]], by simp [results, Tryz.results15, go_sem, h4, h5, e0, e1], hb, .inl ⟨l, hr, _, _, _, rfl, ht⟩⟩
theorem vdoor_scan {w wz : World} {tm : Array Value} {res : Res (List Po)} {c : Int} {q : Nat} (hb : Below w.heap.size w wz) (hf : wz.heap[w.heap.size]? = some (.cells #[.int .i64 c, .int .i64 (q : Int)] 29 (0, 0)))
    (h4 : tm[4]? = some (.slice none 0 0)) (h5 : tm[5]? = some (.pointer (some ⟨w.heap.size, 0, none⟩))) (hr : res = .no c q) :
    Leaves Tryz.prog Tryz.f15 tm (LPost w res) [] .returning wz.drew := by
  have e0 : wz.cell? ⟨w.heap.size, 0, none⟩ = some (.int .i64 c) := by simp [World.cell?, hf]
  have e1 : wz.cell? ⟨w.heap.size, 1, none⟩ = some (.int .i64 (q : Int)) := by simp [World.cell?, hf]
  exact ⟨.tuple #[.slice none 0 0, .agg #[.int .i64 c, .int .i64 (q : Int)]], by simp [results, Tryz.results15, go_sem, h4, h5, e0, e1], hb.drew, .inr ⟨c, q, hr, rfl⟩⟩
set_option maxRecDepth 100000 in
set_option maxHeartbeats 8000000 in
theorem wholeLC (s : ByteArray) (w : World) (hs : s.size ≤ maxLen) (hl : LevAt w w.heap.size) :
    Calls Tryz.prog 15 #[.string s, .func (.func 16) #[] #[]] w (LPost w (Par.readL s.data.toList)) := by
  have hmf : ∀ (fn : Fn) (first cap : Array Value) (w : World), (Instr.makeFunc fn first cap).run Tryz.prog w = .ok (.func fn first cap) w := fun _ _ _ _ => rfl
  have eg : ∀ args w, (callFunc 16 args).run Tryz.prog w = .ok (.enter 16 args) w := enters_of Tryz.func16 (by kernel_rfl) rfl
  obtain ⟨w0, hw0⟩ : ∃ w0, w0 = w.alloc (.cells #[.int .i64 0, .int .i64 0] 29) := ⟨_, rfl⟩
  have hbel : Below w.heap.size w w0 := by rw [hw0]; exact (Below.refl _ _).alloc (Nat.le_refl _) _
  have hs0 : w0.heap.size = w.heap.size + 1 := by rw [hw0]; simp
  have hfau : w0.heap[w.heap.size]? = some (.cells #[.int .i64 0, .int .i64 0] 29 (0, 0)) := by rw [hw0]; exact heap_at_alloc _ _ _ rfl
  have HSC := scan_any s w0 hs
  have HL : Hid (LevAt w w.heap.size) := hl
  have HB : Hid (Below w.heap.size w w0) := hbel
  have HR : Hid (w0.heap[w.heap.size]? = some (.cells #[.int .i64 0, .int .i64 0] 29 (0, 0))) := hfau
  clear hl hbel hfau
  go_enter_defers Tryz.func15, Tryz.ntmps15
  go_wp2_with fail
  rw [← hw0]
  clear hw0
  refine HSC.mono ?_
  rintro e w1 ⟨v, l, c, q, rfl, hsc, hown, hb1⟩
  obtain ⟨ao, cap, rfl⟩ := slice_of hown
  have hz1 := hb1.size
  have hf1 : w1.heap[w.heap.size]? = some (.cells #[.int .i64 0, .int .i64 0] 29 (0, 0)) := (hb1.block _ (by omega)).trans HR.out
  have HB1 : Hid (Below w.heap.size w w1) := HB.out.trans (hb1.mono (by omega))
  have HO : Hid (w1.ownsRow w0.heap.size 80 3 (.slice ao l.length cap) l.length (Lex.cellsOf l)) := hown
  have HS : Hid (Lex.scanAll s.data.toList = (l, c, q)) := hsc
  have HR1 : Hid (w1.heap[w.heap.size]? = some (.cells #[.int .i64 0, .int .i64 0] 29 (0, 0))) := hf1
  have l1 := lt_of_block hf1
  obtain ⟨⟨g0, g1⟩, f0, f1⟩ : (w1.cell? ⟨w.heap.size, 0, none⟩ = some (.int .i64 0) ∧ w1.cell? ⟨w.heap.size, 1, none⟩ = some (.int .i64 0)) ∧ w1.frozen? ⟨w.heap.size, 0, none⟩ = false ∧ w1.frozen? ⟨w.heap.size, 1, none⟩ = false := by refine ⟨⟨?_, ?_⟩, ?_, ?_⟩ <;> simp [World.cell?, World.frozen?, hf1]
  clear hb1 hown hsc hf1 HSC HB HR
  by_cases hc : c = 0
  · subst hc
    obtain ⟨w1', hw1'⟩ : ∃ w1', w1' = (w1.setCell ⟨w.heap.size, 0, none⟩ (.int .i64 0)).setCell ⟨w.heap.size, 1, none⟩ (.int .i64 (q : Int)) := ⟨_, rfl⟩
    have hz1' : w1'.heap.size = w1.heap.size := by rw [hw1']; simp [World.setCell]
    have hb1' : Below w.heap.size w w1' := by rw [hw1']; exact (HB1.out.setCell (by simp) _).setCell (by simp) _
    have hown' : w1'.ownsRow w0.heap.size 80 3 (.slice ao l.length cap) l.length (Lex.cellsOf l) := by rw [hw1']; exact ownsRow_setCell_below (ownsRow_setCell_below HO.out (by show w.heap.size < _; omega) _) (by show w.heap.size < _; omega) _
    have hlev : LevAt w1' w1'.heap.size := (HL.out.keeps hb1'.size fun b hb => hb1'.block b hb).mono (by omega)
    have hrd := rd_new hlev hown' HS.out
    rw [Lex.len_of] at hrd
    have hff : w1'.heap[w.heap.size]? = some (.cells #[.int .i64 0, .int .i64 (q : Int)] 29 (0, 0)) := by rw [hw1']; simp [World.setCell, Array.getElem?_modify, HR1.out]
    obtain ⟨wr, hwr⟩ : ∃ wr, wr = w1'.alloc (.cells #[.slice ao l.length cap, .int .i64 (s.size : Int), .int .i64 0, .int .i64 0] 65) := ⟨_, rfl⟩
    rw [← hwr] at hrd
    have HBR : Hid (Below w.heap.size w wr) := by rw [hwr]; exact hb1'.alloc (by omega) _
    have HZR : Hid (wr.heap[w.heap.size]? = some (.cells #[.int .i64 0, .int .i64 (q : Int)] 29 (0, 0))) := by rw [hwr]; exact heap_past_alloc hff
    have HRD : Hid (Rd wr w1.heap.size s.size 0 0 l (.slice ao l.length cap)) := by rw [← hz1']; exact hrd
    have HRE : Hid (Par.readL s.data.toList = (Par.labelR s.size l).bind fun a r => Par.restR s.size a r) := by
      have := Par.whole_read (R := fun e => Par.labelR e) HS.out
      rw [Lex.len_of] at this
      exact this
    rw [hw1'] at hwr
    clear hz1' hb1' hown' hlev hrd hff hw1'
    go_wp2_with fail
    rw [← hwr]
    clear hwr g0 g1 f0 f1
    refine (labelC HRD.out).mono ?_
    rintro x w2 ⟨hg2, ⟨a, r, hr, u, v', rfl, ⟨lo, ln, lc, rfl, hx⟩, h2⟩ | ⟨cc, qq, hr, rfl, r, v', h2⟩⟩
    · have hb2 : Below w.heap.size w w2 := ⟨hg2.os.trans HBR.out.os, hg2.tape.trans HBR.out.tape, hg2.output.trans HBR.out.output, Nat.le_trans HBR.out.size hg2.size, fun k hk => (hg2.block k (by have := HBR.out.size; omega) (by simp; omega)).trans (HBR.out.block k hk)⟩
      have hf2 : w2.heap[w.heap.size]? = some (.cells #[.int .i64 0, .int .i64 (q : Int)] 29 (0, 0)) := (hg2.block _ (lt_of_block HZR.out) (by simp; omega)).trans HZR.out
      have ll := lt_of_block hf2
      have lrw := h2.lt
      have HB2 : Hid (Below w.heap.size w w2) := hb2
      have HZ2 : Hid (w2.heap[w.heap.size]? = some (.cells #[.int .i64 0, .int .i64 (q : Int)] 29 (0, 0))) := hf2
      have HT : Hid (LabV w2 (fun b => wr.heap.size ≤ b) (.slice lo ln lc) a) := hx
      have HRR : Hid (Par.readL s.data.toList = Par.restR s.size a r) := by show _ = _; rw [HRE.out, hr]; rfl
      have hwz : w.heap.size + 1 ≤ wr.heap.size := by have := lt_of_block HZR.out; omega
      obtain ⟨c0, _⟩ := h2.cells
      obtain ⟨⟨g0, g1⟩, f0, f1⟩ : (w2.cell? ⟨w.heap.size, 0, none⟩ = some (.int .i64 0) ∧ w2.cell? ⟨w.heap.size, 1, none⟩ = some (.int .i64 (q : Int))) ∧ w2.frozen? ⟨w.heap.size, 0, none⟩ = false ∧ w2.frozen? ⟨w.heap.size, 1, none⟩ = false := by refine ⟨⟨?_, ?_⟩, ?_, ?_⟩ <;> simp [World.cell?, World.frozen?, hf2]
      cases r with
      | nil =>
        obtain ⟨ao', c', rfl⟩ := h2.none
        have HOK : Hid (Par.readL s.data.toList = .ok a []) := by show _ = _; rw [HRR.out]; rfl
        clear hx h2 hr hb2 hf2 hg2
        go_wp2
        obtain ⟨k1, k2, k4⟩ := fin2 (b0 := .int .i64 0) (b1 := .int .i64 0) HZ2.out HB2.out
        have ht := (HT.out.keeps ⟨by simp [World.setCell], fun b hb _ => k4 b (by omega)⟩).mono (S' := fun b => w.heap.size ≤ b) fun b hb _ => by omega
        show Leaves _ _ _ _ _ _ _
        refine vdoor_ok k1 k2 ?_ ?_ HOK.out ht
        · rfl
        · rfl
      | cons t r =>
        obtain ⟨b', off', c', rfl, _, _, hm', _⟩ := h2.some
        have hlen := h2.len
        simp only [List.length_cons] at hlen
        have HNO : Hid (Par.readL s.data.toList = .no 1 (atP s.size (t :: r))) := by show _ = _; rw [HRR.out]; rfl
        have HG : Hid (Rd w2 w1.heap.size s.size 0 0 (t :: r) (.slice (some ⟨b', off', none⟩) (r.length + 1) c')) := h2
        unfold maxLen at hm'
        clear hx h2 hr hb2 hf2 hg2
        go_wp2_with fail
        refine (rGive_any _ HG.out).mono ?_
        rintro x w3 ⟨rfl, hw3⟩
        subst hw3
        exact vdoor_no HB2.out HZ2.out rfl rfl HNO.out
    · have hb2 : Below w.heap.size w w2 := ⟨hg2.os.trans HBR.out.os, hg2.tape.trans HBR.out.tape, hg2.output.trans HBR.out.output, Nat.le_trans HBR.out.size hg2.size, fun k hk => (hg2.block k (by have := HBR.out.size; omega) (by simp; omega)).trans (HBR.out.block k hk)⟩
      have hf2 : w2.heap[w.heap.size]? = some (.cells #[.int .i64 0, .int .i64 (q : Int)] 29 (0, 0)) := (hg2.block _ (lt_of_block HZR.out) (by simp; omega)).trans HZR.out
      exact vdoor_no hb2 hf2 rfl rfl (by rw [HRE.out, hr]; rfl)
  · have bc : (c == 0) = false := by simp [hc]
    have HN : Hid (Par.readL s.data.toList = .no c q) := Par.whole_scan HS.out hc
    have HFW : Hid (((w1.setCell ⟨w.heap.size, 0, none⟩ (.int .i64 c)).setCell ⟨w.heap.size, 1, none⟩ (.int .i64 (q : Int))).heap[w.heap.size]? = some (.cells #[.int .i64 c, .int .i64 (q : Int)] 29 (0, 0))) := by show _ = _; simp [World.setCell, Array.getElem?_modify, HR1.out]
    have HBW : Hid (Below w.heap.size w ((w1.setCell ⟨w.heap.size, 0, none⟩ (.int .i64 c)).setCell ⟨w.heap.size, 1, none⟩ (.int .i64 (q : Int)))) := (HB1.out.setCell (by simp) _).setCell (by simp) _
    clear hc
    go_wp2
    go_region
    all_goals (try go_wp2)
    obtain ⟨k1, k2, k4⟩ := fin2 (b0 := .int .i64 c) (b1 := .int .i64 (q : Int)) HFW.out HBW.out
    show Leaves _ _ _ _ _ _ _
    refine vdoor_scan k1 k2 ?_ ?_ HN.out
    · rfl
    · rfl
set_option maxRecDepth 100000 in
set_option maxHeartbeats 2000000 in
theorem pLabel (s : ByteArray) (w : World) {res : Res (List Po)} (hcal : ∀ w', Below w.heap.size w w' → Calls Tryz.prog 15 #[.string s, .func (.func 16) #[] #[]] w' (LPost w' res)) :
    Calls Tryz.prog 5 #[.string s] w (LPost w res) := by
  obtain ⟨w0, hw0⟩ : ∃ w0, w0 = w.alloc (.cells #[.int .i64 0, .int .i64 0] 29) := ⟨_, rfl⟩
  have hbel : Below w.heap.size w w0 := by rw [hw0]; exact (Below.refl _ _).alloc (Nat.le_refl _) _
  have hs0 : w0.heap.size = w.heap.size + 1 := by rw [hw0]; simp
  have hfau : w0.heap[w.heap.size]? = some (.cells #[.int .i64 0, .int .i64 0] 29 (0, 0)) := by rw [hw0]; exact heap_at_alloc _ _ _ rfl
  have hc := hcal w0 hbel
  have HB : Hid (Below w.heap.size w w0) := hbel
  have HF : Hid (w0.heap[w.heap.size]? = some (.cells #[.int .i64 0, .int .i64 0] 29 (0, 0))) := hfau
  clear hcal hbel hfau
  go_enter Tryz.func5, Tryz.ntmps5
  go_wp2_with fail
  rw [← hw0]
  clear hw0
  refine hc.mono ?_
  rintro x w1 ⟨hb1, hcs⟩
  have HB1 : Hid (Below w.heap.size w w1) := HB.out.trans (hb1.mono HB.out.size)
  have hf1 : w1.heap[w.heap.size]? = some (.cells #[.int .i64 0, .int .i64 0] 29 (0, 0)) := (hb1.block _ (by omega)).trans HF.out
  have HF1 : Hid (w1.heap[w.heap.size]? = some (.cells #[.int .i64 0, .int .i64 0] 29 (0, 0))) := hf1
  have l1 := lt_of_block hf1
  obtain ⟨⟨g0, g1⟩, f0, f1⟩ : (w1.cell? ⟨w.heap.size, 0, none⟩ = some (.int .i64 0) ∧ w1.cell? ⟨w.heap.size, 1, none⟩ = some (.int .i64 0)) ∧ w1.frozen? ⟨w.heap.size, 0, none⟩ = false ∧ w1.frozen? ⟨w.heap.size, 1, none⟩ = false := by refine ⟨⟨?_, ?_⟩, ?_, ?_⟩ <;> simp [World.cell?, World.frozen?, hf1]
  clear hb1 hf1 hc
  rcases hcs with ⟨l, hr, lo, ln, lc, rfl, ht⟩ | ⟨c, q, hr, rfl⟩
  · have HT : Hid (LabV w1 (fun b => w0.heap.size ≤ b) (.slice lo ln lc) l) := ht
    have HR : Hid (res = .ok l []) := hr
    clear ht hr
    go_wp2
    obtain ⟨k1, k2, k4⟩ := fin2 (b0 := .int .i64 0) (b1 := .int .i64 0) HF1.out HB1.out
    have ht := (HT.out.keeps ⟨by simp [World.setCell], fun b hb _ => k4 b (by omega)⟩).mono (S' := fun b => w.heap.size ≤ b) fun b hb _ => by omega
    obtain ⟨wz, hwz⟩ : ∃ wz, wz = (w1.setCell ⟨w.heap.size, 0, none⟩ (.int .i64 0)).setCell ⟨w.heap.size, 1, none⟩ (.int .i64 0) := ⟨_, rfl⟩
    rw [← hwz] at k1 k2 ht ⊢
    have e0 : wz.cell? ⟨w.heap.size, 0, none⟩ = some (.int .i64 0) := by simp [World.cell?, k2]
    have e1 : wz.cell? ⟨w.heap.size, 1, none⟩ = some (.int .i64 0) := by simp [World.cell?, k2]
    exact bodyPost_ret (v := .tuple #[.slice lo ln lc, .agg #[.int .i64 0, .int .i64 0]]) (by simp [results, Tryz.results5, go_sem, e0, e1]) rfl ⟨k1, .inl ⟨l, HR.out, _, _, _, rfl, ht⟩⟩
  · have HR : Hid (res = .no c q) := hr
    clear hr
    go_wp2
    obtain ⟨k1, k2, k4⟩ := fin2 (b0 := .int .i64 c) (b1 := .int .i64 (q : Int)) HF1.out HB1.out
    obtain ⟨wz, hwz⟩ : ∃ wz, wz = (w1.setCell ⟨w.heap.size, 0, none⟩ (.int .i64 c)).setCell ⟨w.heap.size, 1, none⟩ (.int .i64 (q : Int)) := ⟨_, rfl⟩
    rw [← hwz] at k1 k2 ⊢
    have e0 : wz.cell? ⟨w.heap.size, 0, none⟩ = some (.int .i64 c) := by simp [World.cell?, k2]
    have e1 : wz.cell? ⟨w.heap.size, 1, none⟩ = some (.int .i64 (q : Int)) := by simp [World.cell?, k2]
    exact bodyPost_ret (v := .tuple #[.slice none 0 0, .agg #[.int .i64 c, .int .i64 (q : Int)]]) (by simp [results, Tryz.results5, go_sem, e0, e1]) rfl ⟨k1, .inr ⟨c, q, HR.out, rfl⟩⟩
set_option maxRecDepth 100000 in
set_option maxHeartbeats 2000000 in
theorem rLabel (s : ByteArray) (w : World) {res : Res (List Po)} (hcal : ∀ w', Below w.heap.size w w' → Calls Tryz.prog 20 #[.string s, .func (.func 21) #[] #[]] w' (LPost w' res)) :
    Calls Tryz.prog 7 #[.string s] w (LPost w res) := by
  obtain ⟨w0, hw0⟩ : ∃ w0, w0 = w.alloc (.cells #[.int .i64 0, .int .i64 0] 29) := ⟨_, rfl⟩
  have hbel : Below w.heap.size w w0 := by rw [hw0]; exact (Below.refl _ _).alloc (Nat.le_refl _) _
  have hs0 : w0.heap.size = w.heap.size + 1 := by rw [hw0]; simp
  have hfau : w0.heap[w.heap.size]? = some (.cells #[.int .i64 0, .int .i64 0] 29 (0, 0)) := by rw [hw0]; exact heap_at_alloc _ _ _ rfl
  have hc := hcal w0 hbel
  have HB : Hid (Below w.heap.size w w0) := hbel
  have HF : Hid (w0.heap[w.heap.size]? = some (.cells #[.int .i64 0, .int .i64 0] 29 (0, 0))) := hfau
  clear hcal hbel hfau
  go_enter Tryz.func7, Tryz.ntmps7
  go_wp2_with fail
  rw [← hw0]
  clear hw0
  refine hc.mono ?_
  rintro x w1 ⟨hb1, hcs⟩
  have HB1 : Hid (Below w.heap.size w w1) := HB.out.trans (hb1.mono HB.out.size)
  have hf1 : w1.heap[w.heap.size]? = some (.cells #[.int .i64 0, .int .i64 0] 29 (0, 0)) := (hb1.block _ (by omega)).trans HF.out
  have HF1 : Hid (w1.heap[w.heap.size]? = some (.cells #[.int .i64 0, .int .i64 0] 29 (0, 0))) := hf1
  have l1 := lt_of_block hf1
  obtain ⟨⟨g0, g1⟩, f0, f1⟩ : (w1.cell? ⟨w.heap.size, 0, none⟩ = some (.int .i64 0) ∧ w1.cell? ⟨w.heap.size, 1, none⟩ = some (.int .i64 0)) ∧ w1.frozen? ⟨w.heap.size, 0, none⟩ = false ∧ w1.frozen? ⟨w.heap.size, 1, none⟩ = false := by refine ⟨⟨?_, ?_⟩, ?_, ?_⟩ <;> simp [World.cell?, World.frozen?, hf1]
  clear hb1 hf1 hc
  rcases hcs with ⟨l, hr, lo, ln, lc, rfl, ht⟩ | ⟨c, q, hr, rfl⟩
  · have HT : Hid (LabV w1 (fun b => w0.heap.size ≤ b) (.slice lo ln lc) l) := ht
    have HR : Hid (res = .ok l []) := hr
    clear ht hr
    go_wp2
    obtain ⟨k1, k2, k4⟩ := fin2 (b0 := .int .i64 0) (b1 := .int .i64 0) HF1.out HB1.out
    have ht := (HT.out.keeps ⟨by simp [World.setCell], fun b hb _ => k4 b (by omega)⟩).mono (S' := fun b => w.heap.size ≤ b) fun b hb _ => by omega
    obtain ⟨wz, hwz⟩ : ∃ wz, wz = (w1.setCell ⟨w.heap.size, 0, none⟩ (.int .i64 0)).setCell ⟨w.heap.size, 1, none⟩ (.int .i64 0) := ⟨_, rfl⟩
    rw [← hwz] at k1 k2 ht ⊢
    have e0 : wz.cell? ⟨w.heap.size, 0, none⟩ = some (.int .i64 0) := by simp [World.cell?, k2]
    have e1 : wz.cell? ⟨w.heap.size, 1, none⟩ = some (.int .i64 0) := by simp [World.cell?, k2]
    exact bodyPost_ret (v := .tuple #[.slice lo ln lc, .agg #[.int .i64 0, .int .i64 0]]) (by simp [results, Tryz.results7, go_sem, e0, e1]) rfl ⟨k1, .inl ⟨l, HR.out, _, _, _, rfl, ht⟩⟩
  · have HR : Hid (res = .no c q) := hr
    clear hr
    go_wp2
    obtain ⟨k1, k2, k4⟩ := fin2 (b0 := .int .i64 c) (b1 := .int .i64 (q : Int)) HF1.out HB1.out
    obtain ⟨wz, hwz⟩ : ∃ wz, wz = (w1.setCell ⟨w.heap.size, 0, none⟩ (.int .i64 c)).setCell ⟨w.heap.size, 1, none⟩ (.int .i64 (q : Int)) := ⟨_, rfl⟩
    rw [← hwz] at k1 k2 ⊢
    have e0 : wz.cell? ⟨w.heap.size, 0, none⟩ = some (.int .i64 c) := by simp [World.cell?, k2]
    have e1 : wz.cell? ⟨w.heap.size, 1, none⟩ = some (.int .i64 (q : Int)) := by simp [World.cell?, k2]
    exact bodyPost_ret (v := .tuple #[.slice none 0 0, .agg #[.int .i64 c, .int .i64 (q : Int)]]) (by simp [results, Tryz.results7, go_sem, e0, e1]) rfl ⟨k1, .inr ⟨c, q, HR.out, rfl⟩⟩
theorem parseLC (s : ByteArray) (w : World) (hs : s.size ≤ maxLen) (hl : LevAt w w.heap.size) : Calls Tryz.prog 5 #[.string s] w (LPost w (Par.readL s.data.toList)) :=
  pLabel s w fun w' hb => wholeLC s w' hs ((hl.keeps hb.size fun b h => hb.block b h).mono hb.size)
theorem readLC (s : ByteArray) (w : World) (hs : s.size ≤ 140737488351232) (hk : TkW w) : Calls Tryz.prog 7 #[.string s] w (LPost w (Par.readL s.data.toList)) :=
  rLabel s w fun w' hb => readLB s w' hs (hk.later hb)
end Go.Proofs.YtcdeicfegfedfaaGreatDoor
