/- The law's closed fact: three tokens of a small text. -/
import Derived.Test.YtilapnfdijjobaaDoorScan
import Derived.Test.YtilapnfdijjobaaDoorTokRow
namespace Go.Proofs.YtilapnfdijjobaaDoor
open Go.RowKit

theorem own_below {w w' : World} {base e size n : Nat} {v : Value} {xs : List Value} (h : w.ownsRow base e size v n xs) (hb : Below w.heap.size w w') : w'.ownsRow base e size v n xs := by
  refine h.kept (row := none) ⟨hb.os, hb.tape, hb.output, hb.size, fun k hk _ => hb.block k hk⟩ ?_
  cases hv : v.ownBlock
  · exact .inl rfl
  · exact .inr (by simp)
theorem bel_drewN {B : Nat} {a w : World} (h : Below B a w) (n : Nat) : Below B a (w.drewN n) := ⟨h.os, h.tape, h.output, h.size, h.block⟩
theorem own_lit (w : World) (cs : List Value) (e n : Nat) (hc : cs.length = n * 3) (hn : n ≤ 1000) : (w.alloc (.cells cs.toArray e)).ownsRow w.heap.size e 3 (.slice (some ⟨w.heap.size, 0, none⟩) n n) n cs :=
  ⟨hc, .inr ⟨w.heap.size, n, cs.toArray, rfl, Nat.le_refl _, heap_alloc_new w _, Nat.le_refl _, by unfold maxLen; omega, by simpa using hc, by simp [← hc]⟩⟩

def small : List Lex.Tok := [(1, 0, [120]), (4, 1, [60, 61]), (2, 4, [49, 48])]
theorem small_scan : Lex.scanAll [120, 60, 61, 32, 49, 48] = (small, 0, 0) := by decide +kernel
theorem small_join : joinUp (tt small) 3 = [120, 32, 60, 61, 32, 49, 48] := by decide +kernel
theorem small_size : ∀ k, k < 3 → (tt small k).size ≤ 4000 := by
  intro k hk
  match k, hk with
  | 0, _ | 1, _ | 2, _ => decide +kernel

set_option maxHeartbeats 2000000 in
theorem scanned_any (w : World) : Calls Tryd.prog 8 #[] w fun e w' => e = .returned (.bool true) ∧ Below w.heap.size w w' := by
  go_enter Tryd.func8, Tryd.ntmps8
  go_wp2_with fail
  refine (scan_any _ _ (by decide)).mono ?_
  rintro e w1 ⟨v, l, c, q, rfl, hsc, hown, hb1⟩
  rw [show ({ data := #[120, 60, 61, 32, 49, 48] } : ByteArray).data.toList = [120, 60, 61, 32, 49, 48] from rfl, small_scan] at hsc
  simp only [Prod.mk.injEq] at hsc
  obtain ⟨hl, hc, hq⟩ := hsc
  subst hl hc hq
  obtain ⟨ao, b, cap, hv, hB, ht⟩ := toks_of_own hown
  subst hv
  have HO : Hid (w1.ownsRow w.heap.size 31 3 (.slice ao small.length cap) small.length (Lex.cellsOf small)) := hown
  have HT : Hid (Toks w1 ao b 0 small.length (tk small) (tq small) (tt small)) := ht
  have hz1 := hb1.size
  clear hown ht hB
  go_wp2_with fail
  refine (join_ok ao b 0 small.length cap (tk small) (tq small) (tt small) _ (by decide) (HT.out.later ((Below.refl _ _).alloc (Nat.le_refl _) _)) small_size).mono ?_
  rintro e w2 ⟨rfl, hb2⟩
  rw [show joinUp (tt small) small.length = [120, 32, 60, 61, 32, 49, 48] from small_join]
  have hk : w2.heap[w1.heap.size]? = some (.cells #[.int .i64 0, .int .i64 0] 25 (0, 0)) := (hb2.block _ (by simp)).trans (heap_at_alloc _ _ _ rfl)
  have k0 : w2.cell? ⟨w1.heap.size, 0, none⟩ = some (.int .i64 0) := by simp [World.cell?, hk]
  have hb12 : Below w1.heap.size w1 w2 := ((Below.refl _ _).alloc (Nat.le_refl _) _).trans (hb2.mono (by simp))
  have HO2 : Hid (w2.ownsRow w.heap.size 31 3 (.slice ao small.length cap) small.length (Lex.cellsOf small)) := own_below HO.out hb12
  have hz2 := hb12.size
  have HBB : Hid (Below w.heap.size w w2) := hb1.trans (hb12.mono hz1)
  clear hk hb12 hb2 hb1
  go_wp2_with fail
  refine (eqTok_own (l := small) (by decide) (HO2.out.alloc _) (own_lit _ (Lex.cellsOf small) _ 3 (by decide) (by omega))).mono ?_
  rintro e w3 ⟨rfl, m, rfl⟩
  go_wp2
  go_ret
  exact ⟨rfl, bel_drewN (HBB.out.alloc (by omega) _) _⟩
end Go.Proofs.YtilapnfdijjobaaDoor
