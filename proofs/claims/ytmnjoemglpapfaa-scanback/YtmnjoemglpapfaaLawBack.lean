/- The law ScanBack's walk: of any text it returns true. -/
import Derived.Test.YtmnjoemglpapfaaScanned
import Derived.Test.YtmnjoemglpapfaaEqFun
import Derived.Test.YtmnjoemglpapfaaShelfP
import Derived.Deep.QuietTactic
import Derived.BigQuiet
namespace Go.Proofs.Ytmnjoemglpapfaa
open Go.RowKit

theorem pref_of {s t : ByteArray} {q : Nat} (h : t.data.toList = (s.data.toList.drop q).take t.data.toList.length) : Lib.hasPrefix (s.extract q s.size).data.toList t.data.toList = true := by
  rw [Lex.tail_list]
  unfold Lib.hasPrefix
  rw [List.isPrefixOf_iff_prefix]
  rw [h]
  exact List.take_prefix _ _
theorem pref_call (s t : ByteArray) (p : Nat) (w : World) (h : Hid (Lib.hasPrefix (s.extract p s.size).data.toList t.data.toList = true)) :
    Calls Try.prog 10 #[.string (s.extract p s.size), .string t] w fun e w' => e = .returned (.bool true) ∧ w' = w := by
  have := Try.strings_HasPrefix (s.extract p s.size) t w
  rw [h.out] at this
  exact this
theorem tok_at {l : List UInt8} {out : List Lex.Tok} (h : ∀ t ∈ out, Lex.From l t) (k : Nat) (hk : k < out.length) : ∃ p : Nat, tq out k = (p : Int) ∧ p ≤ l.length ∧ (tt out k).data.toList = (l.drop p).take (tt out k).data.toList.length ∧ (tt out k).size ≤ l.length := by
  have hg : out.getD k tokD = out[k] := by simp [List.getD_eq_getElem?_getD, List.getElem?_eq_getElem hk]
  have hf := h out[k] (List.getElem_mem hk)
  refine ⟨out[k].2.1, by unfold tq; rw [hg], hf.1, ?_, ?_⟩
  · unfold tt; rw [hg]; simpa using hf.2.1
  · unfold tt; rw [hg]
    have := hf.2.2.2
    simpa [← Lex.len_of] using this

set_option maxHeartbeats 2000000 in
theorem law_back (s : ByteArray) (w : World) (hs : s.size ≤ maxLen) :
    Calls Try.prog 5 #[.string s] w fun e w' => e = .returned (.bool true) ∧ Below w.heap.size w w' := by
  go_enter Try.func5, Try.ntmps5
  go_wp2_with fail
  refine (scan_any s _ hs).mono ?_
  rintro e w1 ⟨v, l, c, q, rfl, hsc, hown, hb1⟩
  obtain ⟨ao, b, cap, hv, hB, ht⟩ := toks_of_own hown
  subst hv
  have HO : Hid (w1.ownsRow w.heap.size 31 3 (.slice ao l.length cap) l.length (Lex.cellsOf l)) := hown
  have HT : Hid (Toks w1 ao b 0 l.length (tk l) (tq l) (tt l)) := ht
  have HSC : Hid (Lex.scanAll s.data.toList = (l, c, q)) := hsc
  have hz1 := hb1.size
  clear hown ht hB hsc
  go_wp2_with fail
  refine (scanned_any _).mono ?_
  rintro e w2 ⟨rfl, hb2⟩
  have hz2 := hb2.size
  simp only [World.size_alloc] at hz2
  have hF : w2.heap[w1.heap.size]? = some (.cells #[.int .i64 c, .int .i64 (q : Int)] 34 (0, 0)) := (hb2.block _ (by simp)).trans (heap_at_alloc _ _ _ rfl)
  have k0 : w2.cell? ⟨w1.heap.size, 0, none⟩ = some (.int .i64 c) := by simp [World.cell?, hF]
  have HF : Hid (w2.heap[w1.heap.size]? = some (.cells #[.int .i64 c, .int .i64 (q : Int)] 34 (0, 0))) := hF
  have HB12 : Hid (Below w1.heap.size w1 w2) := ((Below.refl _ _).alloc (Nat.le_refl _) _).trans (hb2.mono (by simp))
  have HBW : Hid (Below w.heap.size w w2) := hb1.trans (HB12.out.mono hz1)
  clear hF hb2 hb1
  by_cases hc : c = 0
  · subst hc
    obtain ⟨hfr, hln, hsl⟩ := Lex.all_from HSC.out
    rw [Lex.len_of] at hsl
    go_wp2
    go_loopw [25] (fun i wr => ∃ k : Nat, k ≤ l.length ∧ i = .int .i64 k ∧ Below w2.heap.size w2 wr) (fun i _ => l.length - (intOf i).toNat)
    case atStart => exact ⟨0, Nat.zero_le _, rfl, Below.refl _ _⟩
    case round =>
      obtain ⟨k, hk, rfl, hbel⟩ := hrel
      have hle := hbel.size
      by_cases hlt : k < l.length
      · obtain ⟨p, hp, hpl, hpre, _⟩ := tok_at hfr k hlt
        rw [Lex.len_of] at hpl
        obtain ⟨t, htt⟩ : ∃ t, t = tt l k := ⟨_, rfl⟩
        rw [← htt] at hpre
        have HP : Hid (Lib.hasPrefix (s.extract p s.size).data.toList t.data.toList = true) := pref_of hpre
        have ht := (HT.out.later HB12.out).later hbel
        have hao := ht.adr (by omega)
        subst hao
        have f0 := ht.c0 k hlt
        have f1 := ht.c1 k hlt
        have f2 := ht.c2 k hlt
        rw [hp] at f1
        rw [← htt] at f2
        simp only [Nat.zero_add] at f0 f1 f2
        have d1 : decide ((p : Int) < 0) = false := by simp
        have d2 : decide ((s.size : Int) < (p : Int)) = false := by simp; omega
        clear ht hpre htt hp hfr
        go_wp2
        go_quiet ((go_at_call 10; exact Calls.quiet_of_same (pref_call s t p _ HP)))
        go_wp2
        go_roundw
        case rel => exact ⟨k + 1, by omega, by go_num, bel_drewN (hbel.alloc hle _) _⟩
        case measure => simp [intOf]; omega
      · have hsz : ∀ k, k < l.length → (tt l k).size ≤ 4000 := fun k hk => by
          obtain ⟨_, _, _, _, h⟩ := tok_at hfr k hk
          rw [Lex.len_of] at h; omega
        have HJL : Hid ((joinUp (tt l) l.length).length ≤ l.length * 4001) := joinUp_le (tt l) l.length hsz
        have hF : wr.heap[w1.heap.size]? = some (.cells #[.int .i64 0, .int .i64 (q : Int)] 34 (0, 0)) := (hbel.block _ (by omega)).trans HF.out
        clear hfr
        go_wp2_with fail
        refine (join_ok ao b 0 l.length cap (tk l) (tq l) (tt l) _ hln ((HT.out.later HB12.out).later hbel) hsz).mono ?_
        rintro e w3 ⟨rfl, hb3⟩
        have hz3 := hb3.size
        have hF3 : w3.heap[w1.heap.size]? = some (.cells #[.int .i64 0, .int .i64 (q : Int)] 34 (0, 0)) := (hb3.block _ (by omega)).trans hF
        have c0 : w3.cell? ⟨w1.heap.size, 0, none⟩ = some (.int .i64 0) := by simp [World.cell?, hF3]
        have c1 : w3.cell? ⟨w1.heap.size, 1, none⟩ = some (.int .i64 (q : Int)) := by simp [World.cell?, hF3]
        have z0 : w3.frozen? ⟨w1.heap.size, 0, none⟩ = false := by simp [World.frozen?, hF3]
        have z1 : w3.frozen? ⟨w1.heap.size, 1, none⟩ = false := by simp [World.frozen?, hF3]
        have HF3 : Hid (w3.heap[w1.heap.size]? = some (.cells #[.int .i64 0, .int .i64 (q : Int)] 34 (0, 0))) := hF3
        have HB23 : Hid (Below w2.heap.size w2 w3) := hbel.trans (hb3.mono hle)
        have HBW3 : Hid (Below w.heap.size w w3) := HBW.out.trans (HB23.out.mono (by omega))
        obtain ⟨J, hJ⟩ : ∃ J, J = joinUp (tt l) l.length := ⟨_, rfl⟩
        rw [← hJ]
        have hJL : J.length ≤ l.length * 4001 := by rw [hJ]; exact HJL.out
        have HJ : Hid (J = joinUp (tt l) l.length) := hJ
        clear hF hF3 hb3 hJ hsz HJL
        by_cases hbig : 4000 < J.length
        · go_wp2
          go_ret
          exact ⟨rfl, HBW3.out⟩
        · obtain ⟨m, hm, hmap⟩ := scan_back HSC.out (by rw [← HJ.out]; omega)
          rw [← HJ.out] at hm
          have HM : Hid (Lex.scanAll J = (m, 0, 0)) := hm
          have HMAP : Hid (l.map (fun t => (t.1, t.2.2)) = m.map (fun t => (t.1, t.2.2))) := hmap
          clear hm hmap
          go_wp2_with fail
          refine (scan_any ⟨J.toArray⟩ _ (by unfold maxLen; show J.length ≤ _; omega)).mono ?_
          rintro e w4 ⟨v, m', c', q', rfl, hsc, hown, hb4⟩
          have he := (show Lex.scanAll J = (m', c', q') from hsc).symm.trans HM.out
          simp only [Prod.mk.injEq] at he
          obtain ⟨e1, e2, e3⟩ := he
          subst e1 e2 e3
          have hF4 : w4.heap[w1.heap.size]? = some (.cells #[.int .i64 0, .int .i64 (q : Int)] 34 (0, 0)) := (hb4.block _ (by omega)).trans HF3.out
          have x0 : w4.cell? ⟨w1.heap.size, 0, none⟩ = some (.int .i64 0) := by simp [World.cell?, hF4]
          have x1 : w4.cell? ⟨w1.heap.size, 1, none⟩ = some (.int .i64 (q : Int)) := by simp [World.cell?, hF4]
          have y0 : w4.frozen? ⟨w1.heap.size, 0, none⟩ = false := by simp [World.frozen?, hF4]
          have y1 : w4.frozen? ⟨w1.heap.size, 1, none⟩ = false := by simp [World.frozen?, hF4]
          have hz4 := hb4.size
          have HO4 : Hid (w4.ownsRow w3.heap.size 31 3 v m'.length (Lex.cellsOf m')) := hown
          have HB14 : Hid (Below w1.heap.size w1 w4) := (HB12.out.trans (HB23.out.mono (by omega))).trans (hb4.mono (by omega))
          have HBW4 : Hid (Below w.heap.size w w4) := HBW3.out.trans (hb4.mono (by omega))
          clear hF4 hsc hown hb4 c0 c1 z0 z1 k0
          go_wp2_with fail
          refine (eqFun_own hln HMAP.out (own_below HO.out ((HB14.out.setCell (Nat.le_refl _) _).setCell (Nat.le_refl _) _)) (ownsRow_setCell_below (ownsRow_setCell_below HO4.out (by show w1.heap.size < _; omega) _) (by show w1.heap.size < _; omega) _)).mono ?_
          rintro e w5 ⟨rfl, hb5⟩
          go_wp2
          go_ret
          exact ⟨rfl, ((HBW4.out.setCell hz1 _).setCell hz1 _).trans (hb5.mono (by simp [World.setCell]; omega))⟩
  · have bc : (c != 0) = true := by simp [hc]
    go_wp2_with fail
    refine (scanned_any _).mono ?_
    rintro e w3 ⟨rfl, hb3⟩
    go_wp2
    go_ret
    exact ⟨rfl, HBW.out.trans (hb3.mono (by omega))⟩
end Go.Proofs.Ytmnjoemglpapfaa
