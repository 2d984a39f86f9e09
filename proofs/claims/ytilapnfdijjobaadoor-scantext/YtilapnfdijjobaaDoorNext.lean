/- Contract of the closure that scan.reader hands back. -/
import Derived.Test.YtilapnfdijjobaaDoorGap
import Derived.Test.YtilapnfdijjobaaDoorGrow
import Derived.Test.YtilapnfdijjobaaDoorLexD
import Derived.Test.YtilapnfdijjobaaDoorShelf
import Derived.Deep.RegionWith
import Derived.Deep.DeepCutAuto
namespace Go.Proofs.YtilapnfdijjobaaDoor
open Go.RowKit

theorem gap_at (s : ByteArray) (p g : Nat) (w : World) (hs : s.size ≤ 4000) (hg : Hid (Lex.gapF false (s.data.toList.drop p) = g)) :
    Calls Tryd.prog 45 #[.string (s.extract p s.size)] w fun e w' => e = .returned (.int .i64 (g : Int)) ∧ w' = w := by
  have h := gap_any (s.extract p s.size) w (by rw [← Lex.len_of, Lex.tail_list, List.length_drop, Lex.len_of]; omega)
  rw [Lex.tail_list, hg.out] at h
  exact h

/- Behind the first statement: the place is moved on; nothing else that was there has turned. -/
structure Moved (w wc : World) (ba q : Nat) : Prop where
  grown : w.grownBy wc (some ba)
  cellA : wc.heap[ba]? = some (.cells #[.int .i64 (q : Int)] 3 (0, 0))
  res : wc.heap[w.heap.size]? = some (.cells #[.int .i64 0, .int .i64 0, .string ⟨#[]⟩] 31 (0, 0))
theorem wrap_nat (n m : Nat) (h : n + m ≤ 100000) : IntKind.i64.wrap ((n : Int) + (m : Int)) = ((n + m : Nat) : Int) := by rw [IntKind.wrap_i64]; omega
theorem moved_of {w : World} {ba p g : Nat} (hA : w.heap[ba]? = some (.cells #[.int .i64 (p : Int)] 3 (0, 0))) (hle : p + g ≤ 4000) :
    Moved w ((w.setCell ⟨ba, 0, none⟩ (.int .i64 (IntKind.i64.wrap ((p : Int) + (g : Int))))).alloc (.cells #[.int .i64 0, .int .i64 0, .string ⟨#[]⟩] 31)).drew ba (p + g) := by
  rw [wrap_nat p g (by omega)]
  refine ⟨grown_drew (grown_alloc (grown_set (grown_refl _ _) rfl _) _), heap_past_alloc (one_setCell hA), heap_at_alloc _ _ _ (by simp [World.setCell])⟩

theorem ended {w wc : World} {ba q : Nat} (h : Moved w wc ba q) (lA : ba < w.heap.size) (v0 v1 v2 : Value) (o : Obj) :
    w.grownBy ((((wc.setCell ⟨w.heap.size, 0, none⟩ v0).setCell ⟨w.heap.size, 1, none⟩ v1).setCell ⟨w.heap.size, 2, none⟩ v2).alloc o) (some ba) ∧
    ((((wc.setCell ⟨w.heap.size, 0, none⟩ v0).setCell ⟨w.heap.size, 1, none⟩ v1).setCell ⟨w.heap.size, 2, none⟩ v2).alloc o).heap[ba]? = some (.cells #[.int .i64 (q : Int)] 3 (0, 0)) :=
  have hne : ba ≠ w.heap.size := by omega
  ⟨grown_alloc (grown_setNew (grown_setNew (grown_setNew h.grown (Nat.le_refl _) _) (Nat.le_refl _) _) (Nat.le_refl _) _) _, heap_past_alloc (heap_past_set (heap_past_set (heap_past_set h.cellA hne) hne) hne)⟩
structure Cloned (w wc w1 : World) (ba : Nat) (q N : Int) : Prop where
  grown : w.grownBy w1 (some ba)
  cellA : w1.heap[ba]? = some (.cells #[.int .i64 N] 3 (0, 0))
  res : w1.heap[w.heap.size]? = some (.cells #[.int .i64 0, .int .i64 0, .string ⟨#[]⟩] 31 (0, 0))
  tok : w1.heap[wc.heap.size]? = some (.cells #[.int .i64 0, .int .i64 q, .string ⟨#[]⟩] 31 (0, 0))
  lt : w.heap.size < wc.heap.size
theorem cloned {w wc w1 : World} {ba q' : Nat} {q N : Int} (h : Moved w wc ba q') (lA : ba < w.heap.size)
    (hb : Below ((wc.setCell ⟨ba, 0, none⟩ (.int .i64 N)).alloc (.cells #[.int .i64 0, .int .i64 q, .string ⟨#[]⟩] 31)).heap.size ((wc.setCell ⟨ba, 0, none⟩ (.int .i64 N)).alloc (.cells #[.int .i64 0, .int .i64 q, .string ⟨#[]⟩] 31)) w1) : Cloned w wc w1 ba q N := by
  have hz : ((wc.setCell ⟨ba, 0, none⟩ (.int .i64 N)).alloc (.cells #[.int .i64 0, .int .i64 q, .string ⟨#[]⟩] 31)).heap.size = wc.heap.size + 1 := by simp [World.setCell]
  have lR := lt_of_block h.res
  have lB := lt_of_block h.cellA
  have hk : ∀ b, b < wc.heap.size + 1 → w1.heap[b]? = ((wc.setCell ⟨ba, 0, none⟩ (.int .i64 N)).alloc (.cells #[.int .i64 0, .int .i64 q, .string ⟨#[]⟩] 31)).heap[b]? := fun b hlt => hb.block b (by rw [hz]; exact hlt)
  refine ⟨grown_below (grown_alloc (grown_set h.grown rfl _) _) hb, (hk ba (by omega)).trans (heap_past_alloc (one_setCell h.cellA)), (hk w.heap.size (by omega)).trans (heap_past_alloc (heap_past_set h.res (by show w.heap.size ≠ ba; omega))), (hk wc.heap.size (by omega)).trans (heap_at_alloc _ _ _ (by simp [World.setCell])), lR⟩
theorem ended_tok {w wc w1 : World} {ba : Nat} {q N : Int} (h : Cloned w wc w1 ba q N) (lA : ba < w.heap.size) (a0 a2 v0 v1 v2 : Value) :
    w.grownBy (((((w1.setCell ⟨wc.heap.size, 0, none⟩ a0).setCell ⟨wc.heap.size, 2, none⟩ a2).setCell ⟨w.heap.size, 0, none⟩ v0).setCell ⟨w.heap.size, 1, none⟩ v1).setCell ⟨w.heap.size, 2, none⟩ v2) (some ba) ∧
    (((((w1.setCell ⟨wc.heap.size, 0, none⟩ a0).setCell ⟨wc.heap.size, 2, none⟩ a2).setCell ⟨w.heap.size, 0, none⟩ v0).setCell ⟨w.heap.size, 1, none⟩ v1).setCell ⟨w.heap.size, 2, none⟩ v2).heap[ba]? = some (.cells #[.int .i64 N] 3 (0, 0)) :=
  have hne : ba ≠ w.heap.size := by omega
  have hnc : ba ≠ wc.heap.size := by have := h.lt; omega
  have hle : w.heap.size ≤ wc.heap.size := Nat.le_of_lt h.lt
  ⟨grown_setNew (grown_setNew (grown_setNew (grown_setNew (grown_setNew h.grown hle _) hle _) (Nat.le_refl _) _) (Nat.le_refl _) _) (Nat.le_refl _) _, heap_past_set (heap_past_set (heap_past_set (heap_past_set (heap_past_set h.cellA hnc) hnc) hne) hne) hne⟩
theorem first_at (s : ByteArray) (q : Nat) (k c : Int) (t : ByteArray) (w : World) (hs : s.size ≤ 4000) (hq : q < s.size) (hf : Hid (Lex.firstF (s.data.toList.drop q) = (k, t.data.toList, c))) :
    Calls Tryd.prog 46 #[.string (s.extract q s.size)] w fun e w' => e = .returned (.tuple #[.int .i64 k, .string t, .int .i64 c]) ∧ w' = w := by
  have hz : (s.extract q s.size).size = s.size - q := by rw [← Lex.len_of, Lex.tail_list, List.length_drop, Lex.len_of]
  have h := first_any (s.extract q s.size) w (by omega) (by omega)
  rw [Lex.tail_list, hf.out] at h
  exact h
theorem clone_any (s : ByteArray) (w : World) (hs : s.size ≤ 4000) :
    Calls Tryd.prog 41 #[.string s] w fun e w' => e = .returned (.string s) ∧ Below w.heap.size w w' := by
  go_enter Tryd.func41, Tryd.ntmps41
  go_wp2_with (go_at_call 63; refine (Tryd.stringslite_Clone _ _ (by omega)).mono ?_; rintro e w' ⟨rfl, hb⟩)
  go_ret
  exact ⟨rfl, hb⟩

set_option maxHeartbeats 2000000 in
theorem next_any (s : ByteArray) (p ba bs : Nat) (w : World) (hs : s.size ≤ 4000) (hp : p ≤ s.size)
    (hA : w.heap[ba]? = some (.cells #[.int .i64 (p : Int)] 3 (0, 0))) (hS : w.heap[bs]? = some (.cells #[.string s] 9 (0, 0))) :
    Calls Tryd.prog 44 #[.pointer (some ⟨ba, 0, none⟩), .pointer (some ⟨bs, 0, none⟩)] w fun e w' => ∃ (k : Int) (q : Nat) (t : ByteArray) (c : Int) (n : Nat), e = .returned (.tuple #[.agg #[.int .i64 k, .int .i64 (q : Int), .string t], .int .i64 c]) ∧ Hid (Lex.stepF s.data.toList p = (k, q, t.data.toList, c, n)) ∧ w.grownBy w' (some ba) ∧ w'.heap[ba]? = some (.cells #[.int .i64 (n : Int)] 3 (0, 0)) ∧ q ≤ s.size ∧ n ≤ s.size ∧ (k ≠ 0 → p < n) := by
  have cA := cell_of_one hA
  have cS := cell_of_one hS
  have fA := free_of_one hA
  have lA := lt_of_block hA
  have lS := lt_of_block hS
  have hne : ba ≠ bs := by rintro rfl; rw [hA] at hS; simp at hS
  obtain ⟨g, hg⟩ : ∃ g, Lex.gapF false (s.data.toList.drop p) = g := ⟨_, rfl⟩
  have hle := Lex.gap_end_le s.data.toList p (by rw [Lex.len_of]; exact hp)
  rw [Lex.len_of, hg] at hle
  have HG : Hid (Lex.gapF false (s.data.toList.drop p) = g) := hg
  have HA : Hid (w.heap[ba]? = some (.cells #[.int .i64 (p : Int)] 3 (0, 0))) := hA
  have HS : Hid (w.heap[bs]? = some (.cells #[.string s] 9 (0, 0))) := hS
  clear hg hA hS
  go_enter Tryd.func44, Tryd.ntmps44
  go_wp2
  go_cut [] (fun wc => Moved w wc ba (p + g))
  case first =>
    go_region_with (go_at_call 45; refine (gap_at s p g _ hs HG).mono ?_; rintro e w' ⟨rfl, rfl⟩)
    all_goals (try go_wp2_with fail)
    all_goals go_meet
    all_goals exact moved_of HA.out (by omega)
  case rest =>
    obtain ⟨q, hq⟩ : ∃ q, q = p + g := ⟨_, rfl⟩
    rw [← hq] at hcut hle
    have HQ : Hid (p + Lex.gapF false (s.data.toList.drop p) = q) := by show _ = _; rw [HG.out]; exact hq.symm
    have hpq : p ≤ q := by omega
    clear hq
    have cA' := cell_of_one hcut.cellA
    have fA' := free_of_one hcut.cellA
    have lA' := lt_of_block hcut.cellA
    have lR' := lt_of_block hcut.res
    have hS' : wc.heap[bs]? = some (.cells #[.string s] 9 (0, 0)) := (hcut.grown.block bs lS (by simp; omega)).trans HS.out
    have cS' := cell_of_one hS'
    have lS' := lt_of_block hS'
    have r0 : wc.cell? ⟨w.heap.size, 0, none⟩ = some (.int .i64 0) := by simp [World.cell?, hcut.res]
    have r1 : wc.cell? ⟨w.heap.size, 1, none⟩ = some (.int .i64 0) := by simp [World.cell?, hcut.res]
    have r2 : wc.cell? ⟨w.heap.size, 2, none⟩ = some (.string ⟨#[]⟩) := by simp [World.cell?, hcut.res]
    have z0 : wc.frozen? ⟨w.heap.size, 0, none⟩ = false := by simp [World.frozen?, hcut.res]
    have z1 : wc.frozen? ⟨w.heap.size, 1, none⟩ = false := by simp [World.frozen?, hcut.res]
    have z2 : wc.frozen? ⟨w.heap.size, 2, none⟩ = false := by simp [World.frozen?, hcut.res]
    have HC : Hid (Moved w wc ba q) := hcut
    clear hcut hS' cA cS fA
    by_cases hend : q = s.size
    · have hb : ((q : Int) == (s.size : Int)) = true := by simp [hend]
      have HE : Hid (q = s.size) := hend
      clear hend
      go_wp2
      have hE := ended HC.out lA (.int .i64 0) (.int .i64 (q : Int)) (.string ⟨#[]⟩) (.cells #[.int .i64 0, .int .i64 (q : Int), .string ⟨#[]⟩] 31)
      exact bodyPost_ret (v := .tuple #[.agg #[.int .i64 0, .int .i64 (q : Int), .string ⟨#[]⟩], .int .i64 0]) (by simp [results, Tryd.results44, go_sem, lR', r0, r1, r2]) rfl ⟨0, q, ⟨#[]⟩, 0, q, rfl, Lex.step_end HQ.out (by rw [Lex.len_of]; exact HE.out), hE.1, hE.2, hle, hle, fun h => absurd rfl h⟩
    · have hb : ((q : Int) == (s.size : Int)) = false := by simp; omega
      have hlt : q < s.size := by omega
      obtain ⟨k, t, c, hf⟩ : ∃ (k : Int) (t : ByteArray) (c : Int), Lex.firstF (s.data.toList.drop q) = (k, t.data.toList, c) := ⟨(Lex.firstF (s.data.toList.drop q)).1, ⟨(Lex.firstF (s.data.toList.drop q)).2.1.toArray⟩, (Lex.firstF (s.data.toList.drop q)).2.2, by simp⟩
      have HF : Hid (Lex.firstF (s.data.toList.drop q) = (k, t.data.toList, c)) := hf
      clear hf hend
      by_cases hc : c = 0
      · subst hc
        have hok := Lex.first_ok HF.out (by intro h; have := congrArg List.length h; rw [List.length_drop, Lex.len_of] at this; simp at this; omega)
        have htl : t.size ≤ s.size - q := by have := hok.2.2.2; rwa [List.length_drop, Lex.len_of, Lex.len_of] at this
        have htp : 0 < t.size := by have := hok.2.1; rwa [Lex.len_of] at this
        have HK : Hid (k ≠ 0) := hok.1
        clear hok
        go_wp2_with (go_at_call 46; refine (first_at s q k 0 t _ hs hlt HF).mono ?_; rintro e w' ⟨rfl, rfl⟩)
        refine (clone_any t _ (by omega)).mono ?_
        rintro e w1 ⟨rfl, hb1⟩
        have HD : Hid (Cloned w wc w1 ba (q : Int) ((q : Int) + (t.size : Int))) := cloned HC.out lA hb1
        have lT : wc.heap.size < w1.heap.size := lt_of_block HD.out.tok
        have t0 : w1.cell? ⟨wc.heap.size, 0, none⟩ = some (.int .i64 0) := by simp [World.cell?, HD.out.tok]
        have t1 : w1.cell? ⟨wc.heap.size, 1, none⟩ = some (.int .i64 (q : Int)) := by simp [World.cell?, HD.out.tok]
        have t2 : w1.cell? ⟨wc.heap.size, 2, none⟩ = some (.string ⟨#[]⟩) := by simp [World.cell?, HD.out.tok]
        have y0 : w1.frozen? ⟨wc.heap.size, 0, none⟩ = false := by simp [World.frozen?, HD.out.tok]
        have y2 : w1.frozen? ⟨wc.heap.size, 2, none⟩ = false := by simp [World.frozen?, HD.out.tok]
        have s0 : w1.cell? ⟨w.heap.size, 0, none⟩ = some (.int .i64 0) := by simp [World.cell?, HD.out.res]
        have s1 : w1.cell? ⟨w.heap.size, 1, none⟩ = some (.int .i64 0) := by simp [World.cell?, HD.out.res]
        have s2 : w1.cell? ⟨w.heap.size, 2, none⟩ = some (.string ⟨#[]⟩) := by simp [World.cell?, HD.out.res]
        have x0 : w1.frozen? ⟨w.heap.size, 0, none⟩ = false := by simp [World.frozen?, HD.out.res]
        have x1 : w1.frozen? ⟨w.heap.size, 1, none⟩ = false := by simp [World.frozen?, HD.out.res]
        have x2 : w1.frozen? ⟨w.heap.size, 2, none⟩ = false := by simp [World.frozen?, HD.out.res]
        have hdiff : wc.heap.size ≠ w.heap.size := by omega
        clear hb1 r0 r1 r2 z0 z1 z2 cA' cS' fA'
        go_wp2
        have hE := ended_tok HD.out lA (.int .i64 k) (.string t) (.int .i64 k) (.int .i64 (q : Int)) (.string t)
        exact bodyPost_ret (v := .tuple #[.agg #[.int .i64 k, .int .i64 (q : Int), .string t], .int .i64 0]) (by simp [results, Tryd.results44, go_sem, s0, s1, s2]) rfl ⟨k, q, t, 0, q + t.size, rfl, (Lex.step_tok HQ.out (by rw [Lex.len_of]; omega) HF.out).trans (by rw [Lex.len_of]), hE.1, by rw [hE.2]; simp, hle, by omega, fun _ => by omega⟩
      · have hn : (c != 0) = true := by simp [hc]
        have HN : Hid (c ≠ 0) := hc
        clear hc
        go_wp2_with (go_at_call 46; refine (first_at s q k c t _ hs hlt HF).mono ?_; rintro e w' ⟨rfl, rfl⟩)
        have hE := ended HC.out lA (.int .i64 0) (.int .i64 (q : Int)) (.string ⟨#[]⟩) (.cells #[.int .i64 0, .int .i64 (q : Int), .string ⟨#[]⟩] 31)
        exact bodyPost_ret (v := .tuple #[.agg #[.int .i64 0, .int .i64 (q : Int), .string ⟨#[]⟩], .int .i64 c]) (by simp [results, Tryd.results44, go_sem, lR', r0, r1, r2]) rfl ⟨0, q, ⟨#[]⟩, c, q, rfl, Lex.step_bad HQ.out (by rw [Lex.len_of]; omega) HF.out HN.out, hE.1, hE.2, hle, hle, fun h => absurd rfl h⟩
end Go.Proofs.YtilapnfdijjobaaDoor
