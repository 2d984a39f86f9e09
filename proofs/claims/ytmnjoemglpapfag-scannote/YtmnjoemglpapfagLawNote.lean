/- The law ScanNote's walk: of any two texts it returns true. -/
import Derived.Test.YtmnjoemglpapfagScanned
import Derived.Test.YtmnjoemglpapfagLexN
import Derived.Test.YtmnjoemglpapfagShelfC
namespace Go.Proofs.Ytmnjoemglpapfag
open Go.RowKit

theorem no_feed (l : List UInt8) (h : ¬ 0 ≤ Lib.indexByte l 10) : ∀ c ∈ l, Lex.lineB (c.toNat : Int) = true := by
  induction l with
  | nil => simp
  | cons a r ih =>
    unfold Lib.indexByte at h
    by_cases ha : (a == 10) = true
    · rw [if_pos ha] at h; omega
    · rw [if_neg ha] at h
      have hr : ¬ 0 ≤ Lib.indexByte r 10 := by
        split at h
        · rename_i h1; have := eq_of_beq h1; omega
        · omega
      intro c hc
      rcases List.mem_cons.1 hc with rfl | hc
      · have hne : c ≠ 10 := by simpa using ha
        have hn : (c.toNat : Int) ≠ 10 := by
          intro e; apply hne; apply UInt8.toNat_inj.1; simp; omega
        simp [Lex.lineB, hn]
      · exact ih hr c hc
theorem note_text (s n : ByteArray) : s ++ ⟨#[32, 35]⟩ ++ n = ⟨(s.data.toList ++ 32 :: 35 :: n.data.toList).toArray⟩ := by
  have e1 : s = ⟨s.data.toList.toArray⟩ := rfl
  have e2 : n = ⟨n.data.toList.toArray⟩ := rfl
  have e3 : (⟨#[32, 35]⟩ : ByteArray) = ⟨([32, 35] : List UInt8).toArray⟩ := rfl
  conv => lhs; rw [e1, e2, e3]
  rw [ByteArray.mk_append_mk, ByteArray.mk_append_mk]
  simp

set_option maxHeartbeats 2000000 in
set_option maxRecDepth 100000 in
theorem law_note (s n : ByteArray) (w : World) (hs : s.size ≤ 140737488351232) (hn : n.size ≤ 140737488351232) :
    Calls Try.prog 3 #[.string s, .string n] w fun e w' => e = .returned (.bool true) ∧ Below w.heap.size w w' := by
  go_enter Try.func3, Try.ntmps3
  go_wp2_with fail
  refine (scan_any s _ (by unfold maxLen; omega)).mono ?_
  rintro e w1 ⟨v, l, c, q, rfl, hsc, hown, hb1⟩
  have HO : Hid (w1.ownsRow w.heap.size 32 3 v l.length (Lex.cellsOf l)) := hown
  have HSC : Hid (Lex.scanAll s.data.toList = (l, c, q)) := hsc
  have hz1 := hb1.size
  clear hown hsc
  go_wp2_with fail
  refine (scanned_any _).mono ?_
  rintro e w2 ⟨rfl, hb2⟩
  have hz2 := hb2.size
  simp only [World.size_alloc] at hz2
  have hF : w2.heap[w1.heap.size]? = some (.cells #[.int .i64 c, .int .i64 (q : Int)] 25 (0, 0)) := (hb2.block _ (by simp)).trans (heap_at_alloc _ _ _ rfl)
  have k0 : w2.cell? ⟨w1.heap.size, 0, none⟩ = some (.int .i64 c) := by simp [World.cell?, hF]
  have HF : Hid (w2.heap[w1.heap.size]? = some (.cells #[.int .i64 c, .int .i64 (q : Int)] 25 (0, 0))) := hF
  have HB12 : Hid (Below w1.heap.size w1 w2) := ((Below.refl _ _).alloc (Nat.le_refl _) _).trans (hb2.mono (by simp))
  have HBW : Hid (Below w.heap.size w w2) := hb1.trans (HB12.out.mono hz1)
  clear hF hb2 hb1
  by_cases hc : c = 0
  · subst hc
    cases hi : decide (0 ≤ Lib.indexByte n.data.toList 10)
    · by_cases hbig : 4000 < (s.size : Int) + (n.size : Int) + 2
      · go_wp2_with (go_at_call 6; refine (Try.strings_Contains_one _ _ _).mono ?_; rintro e w' ⟨rfl, hw⟩; have hw' := hw.symm; subst hw')
        refine (scanned_any _).mono ?_
        rintro e w3 ⟨rfl, hb3⟩
        go_wp2
        go_ret
        exact ⟨rfl, HBW.out.trans (hb3.mono (by omega))⟩
      · have HN : Hid (∀ c ∈ n.data.toList, Lex.lineB (c.toNat : Int) = true) := no_feed _ (by simpa using hi)
        have HM : Hid (Lex.scanAll (s.data.toList ++ 32 :: 35 :: n.data.toList) = (l, 0, 0)) := Lex.scan_note HN.out HSC.out (by rw [Lex.len_of, Lex.len_of]; omega)
        go_wp2_with (go_at_call 6; refine (Try.strings_Contains_one _ _ _).mono ?_; rintro e w' ⟨rfl, hw⟩; have hw' := hw.symm; subst hw')
        rw [note_text s n]
        obtain ⟨J, hJ⟩ : ∃ J, J = s.data.toList ++ 32 :: 35 :: n.data.toList := ⟨_, rfl⟩
        rw [← hJ]
        have HJ : Hid (Lex.scanAll J = (l, 0, 0)) := by have := HM.out; rwa [← hJ] at this
        have hJL : J.length ≤ 4000 := by
          rw [hJ]; have h1 := Lex.len_of s; have h2 := Lex.len_of n
          simp only [List.length_append, List.length_cons]; omega
        clear hJ HM HN
        refine (scan_any ⟨J.toArray⟩ _ (by unfold maxLen; show J.length ≤ _; omega)).mono ?_
        rintro e w4 ⟨v', m', c', q', rfl, hsc, hown, hb4⟩
        have he := (show Lex.scanAll J = (m', c', q') from hsc).symm.trans HJ.out
        simp only [Prod.mk.injEq] at he
        obtain ⟨e1, e2, e3⟩ := he
        subst e1 e2 e3
        have hF4 : w4.heap[w1.heap.size]? = some (.cells #[.int .i64 0, .int .i64 (q : Int)] 25 (0, 0)) := (hb4.block _ (by omega)).trans HF.out
        have x0 : w4.cell? ⟨w1.heap.size, 0, none⟩ = some (.int .i64 0) := by simp [World.cell?, hF4]
        have x1 : w4.cell? ⟨w1.heap.size, 1, none⟩ = some (.int .i64 (q : Int)) := by simp [World.cell?, hF4]
        have y0 : w4.frozen? ⟨w1.heap.size, 0, none⟩ = false := by simp [World.frozen?, hF4]
        have y1 : w4.frozen? ⟨w1.heap.size, 1, none⟩ = false := by simp [World.frozen?, hF4]
        have hz4 := hb4.size
        have HO4 : Hid (w4.ownsRow w2.heap.size 32 3 v' m'.length (Lex.cellsOf m')) := hown
        have HB14 : Hid (Below w1.heap.size w1 w4) := HB12.out.trans (hb4.mono (by omega))
        have HBW4 : Hid (Below w.heap.size w w4) := HBW.out.trans (hb4.mono (by omega))
        clear hF4 hsc hown hb4 k0
        go_wp2_with fail
        refine (eqTok_own (Lex.all_len HSC.out) (own_below HO.out ((HB14.out.setCell (Nat.le_refl _) _).setCell (Nat.le_refl _) _)) (ownsRow_setCell_below (ownsRow_setCell_below HO4.out (by show w1.heap.size < _; omega) _) (by show w1.heap.size < _; omega) _)).mono ?_
        rintro e w5 ⟨rfl, m, rfl⟩
        go_wp2
        go_ret
        exact ⟨rfl, bel_drewN ((HBW4.out.setCell hz1 _).setCell hz1 _) _⟩
    · go_wp2_with (go_at_call 6; refine (Try.strings_Contains_one _ _ _).mono ?_; rintro e w' ⟨rfl, hw⟩; have hw' := hw.symm; subst hw')
      refine (scanned_any _).mono ?_
      rintro e w3 ⟨rfl, hb3⟩
      go_wp2
      go_ret
      exact ⟨rfl, HBW.out.trans (hb3.mono (by omega))⟩
  · have bc : (c != 0) = true := by simp [hc]
    go_wp2_with fail
    refine (scanned_any _).mono ?_
    rintro e w3 ⟨rfl, hb3⟩
    go_wp2
    go_ret
    exact ⟨rfl, HBW.out.trans (hb3.mono (by omega))⟩
end Go.Proofs.Ytmnjoemglpapfag
