/- The law ScanText, walked. -/
import Derived.Test.YtilapnfdijjobaaDoorScanned
import Derived.Test.YtilapnfdijjobaaDoorLexN
import Derived.Test.YtilapnfdijjobaaDoorToks2
namespace Go.Proofs.YtilapnfdijjobaaDoor
open Go.RowKit

set_option maxHeartbeats 2000000 in
set_option maxRecDepth 100000 in
theorem law_text (s n : ByteArray) (m : Int) (w : World) (hs : s.size ≤ 140737488351232) (hn : n.size ≤ 140737488351232) (hm : w.cell? ⟨2, 0, none⟩ = some (.int .i64 m)) (htab : Lib.TabIs Tryd.prog w "strings.asciiSpace" .u8 Lib.asciiSpaceTab) :
    Calls Tryd.prog 3 #[.string s, .string n] w fun e w' => e = .returned (.bool true) ∧ Below w.heap.size w w' := by
  have HMX : Hid (w.cell? ⟨2, 0, none⟩ = some (.int .i64 m)) := hm
  have HTAB : Hid (Lib.TabIs Tryd.prog w "strings.asciiSpace" .u8 Lib.asciiSpaceTab) := htab
  have hgl : 2 < w.heap.size := World.block_lt_of_cell? w _ hm
  clear hm htab
  go_enter Tryd.func3, Tryd.ntmps3
  go_wp2_with fail
  refine (scan_any s _ (by unfold maxLen; omega)).mono ?_
  rintro e w1 ⟨v, l, c, q, rfl, hsc, hown, hb1⟩
  have HO : Hid (w1.ownsRow w.heap.size 31 3 v l.length (Lex.cellsOf l)) := hown
  have HSC : Hid (Lex.scanAll s.data.toList = (l, c, q)) := hsc
  have HB1 : Hid (Below w.heap.size w (w1.alloc (.cells #[.int .i64 c, .int .i64 (q : Int)] 25))) := hb1.alloc hb1.size _
  have HBA : Hid (Below w1.heap.size w1 (w1.alloc (.cells #[.int .i64 c, .int .i64 (q : Int)] 25))) := (Below.refl _ _).alloc (Nat.le_refl _) _
  have HF1 : Hid ((w1.alloc (.cells #[.int .i64 c, .int .i64 (q : Int)] 25)).heap[w1.heap.size]? = some (.cells #[.int .i64 c, .int .i64 (q : Int)] 25 (0, 0))) := heap_at_alloc _ _ _ rfl
  clear hown hsc hb1
  go_wp2_with fail
  refine (tokens_any s m _ hs ((HB1.out.cell (p := ⟨2, 0, none⟩) hgl).trans HMX.out) (Joins.tab_stays (g := 0) (by kernel_rfl) HTAB.out HB1.out (Nat.le_refl _))).mono ?_
  rintro e w2 ⟨v2, l2, c2, q2, rfl, hsc2, hown2, hb2⟩
  have he := hsc2.symm.trans HSC.out
  simp only [Prod.mk.injEq] at he
  obtain ⟨e1, e2, e3⟩ := he
  subst e1 e2 e3
  have hz2 := hb2.size
  simp only [World.size_alloc] at hz2
  have HF2 : Hid (w2.heap[w1.heap.size]? = some (.cells #[.int .i64 c2, .int .i64 (q2 : Int)] 25 (0, 0))) := (hb2.block _ (by simp)).trans HF1.out
  have HO2 : Hid (w2.ownsRow (w1.alloc (.cells #[.int .i64 c2, .int .i64 (q2 : Int)] 25)).heap.size 31 3 v2 l2.length (Lex.cellsOf l2)) := hown2
  have HO1 : Hid (w2.ownsRow w.heap.size 31 3 v l2.length (Lex.cellsOf l2)) := own_below HO.out (HBA.out.trans (hb2.mono (by simp)))
  have HB2 : Hid (Below w.heap.size w w2) := HB1.out.trans (hb2.mono HB1.out.size)
  have HG2 : Hid ((w2.alloc (.cells #[.int .i64 c2, .int .i64 (q2 : Int)] 25)).heap[w2.heap.size]? = some (.cells #[.int .i64 c2, .int .i64 (q2 : Int)] 25 (0, 0))) := heap_at_alloc _ _ _ rfl
  have HBB : Hid (Below w2.heap.size w2 (w2.alloc (.cells #[.int .i64 c2, .int .i64 (q2 : Int)] 25))) := (Below.refl _ _).alloc (Nat.le_refl _) _
  clear hsc2 hown2 hb2 HF1 HO HB1 HBA
  go_wp2_with fail
  refine (scanned_any _).mono ?_
  rintro e w3 ⟨rfl, hb3⟩
  have hz3 := hb3.size
  simp only [World.size_alloc] at hz3
  have HB23 : Hid (Below w2.heap.size w2 w3) := HBB.out.trans (hb3.mono (by simp))
  have hF3 : w3.heap[w1.heap.size]? = some (.cells #[.int .i64 c2, .int .i64 (q2 : Int)] 25 (0, 0)) := (HB23.out.block _ (by omega)).trans HF2.out
  have hG3 : w3.heap[w2.heap.size]? = some (.cells #[.int .i64 c2, .int .i64 (q2 : Int)] 25 (0, 0)) := (hb3.block _ (by simp)).trans HG2.out
  have x0 : w3.cell? ⟨w1.heap.size, 0, none⟩ = some (.int .i64 c2) := by simp [World.cell?, hF3]
  have x1 : w3.cell? ⟨w1.heap.size, 1, none⟩ = some (.int .i64 (q2 : Int)) := by simp [World.cell?, hF3]
  have y0 : w3.cell? ⟨w2.heap.size, 0, none⟩ = some (.int .i64 c2) := by simp [World.cell?, hG3]
  have y1 : w3.cell? ⟨w2.heap.size, 1, none⟩ = some (.int .i64 (q2 : Int)) := by simp [World.cell?, hG3]
  have HB3 : Hid (Below w.heap.size w w3) := HB2.out.trans (HB23.out.mono HB2.out.size)
  have HKE : Hid (Calls Tryd.prog 9 #[v, v2] w3 fun e w' => e = .returned (.bool true) ∧ ∃ m, w' = w3.drewN m) := eqTok_own (Lex.all_len HSC.out) (own_below HO1.out HB23.out) (own_below HO2.out HB23.out)
  clear hF3 hG3 hb3
  go_wp2_with fail
  refine HKE.out.mono ?_
  rintro e w4 ⟨rfl, mm, rfl⟩
  have HB4 : Hid (Below w.heap.size w (w3.drewN mm)) := bel_drewN HB3.out mm
  have HM4 : Hid ((w3.drewN mm).cell? ⟨2, 0, none⟩ = some (.int .i64 m)) := (HB4.out.cell (p := ⟨2, 0, none⟩) hgl).trans HMX.out
  obtain ⟨wz, hwz⟩ : ∃ wz, wz = w3.drewN mm := ⟨_, rfl⟩
  rw [← hwz] at HB4 HM4 ⊢
  obtain ⟨bw, hbw⟩ : ∃ bw, Lex.wordB n.data.toList = bw := ⟨_, rfl⟩
  obtain ⟨bn, hbn⟩ : ∃ bn, Lex.nameF n.data.toList = bn := ⟨_, rfl⟩
  have HBW : Hid (Lex.wordB n.data.toList = bw) := hbw
  have HBN : Hid (Lex.nameF n.data.toList = bn) := hbn
  have b1 : (bw == bw) = true := by simp
  have b2 : (bn == bn) = true := by simp
  clear hwz hbw hbn HKE x0 x1 y0 y1
  go_wp2_with fail
  refine (word_any n _).mono ?_
  rintro e w5 ⟨rfl, hw⟩
  have hw' := hw.symm
  subst hw'
  rw [Lex.list_of, HBW.out]
  go_wp2_with fail
  refine (isWord_any n m _ hn HM4.out).mono ?_
  rintro e w5 ⟨rfl, hw⟩
  have hw' := hw.symm
  subst hw'
  rw [HBW.out]
  go_wp2_with fail
  refine (scanName_any n _ (by omega)).mono ?_
  rintro e w5 ⟨rfl, hw⟩
  have hw' := hw.symm
  subst hw'
  rw [HBN.out]
  go_wp2_with fail
  refine (isName_any n m _ (by omega) HM4.out).mono ?_
  rintro e w5 ⟨rfl, hb5⟩
  rw [HBN.out]
  go_wp2
  go_ret
  exact ⟨by simp, HB4.out.trans (hb5.mono HB4.out.size)⟩
end Go.Proofs.YtilapnfdijjobaaDoor
