/- Contract of tree.exprAlone. -/
import Derived.Test.YtcdeicfegfedfaaGreatDoorGaFmA
import Derived.Test.YtcdeicfegfedfaaGreatDoorGaRd
import Derived.Deep.QuietTactic
import Derived.BigQuiet
namespace Go.Proofs.YtcdeicfegfedfaaGreatDoor
open Go.RowKit
open Par (Tok Po Tr nx atP isT ba Res)

theorem bcell {W w1 : World} (hb : Below W.heap.size W w1) : (∀ b o, b < W.heap.size → w1.cell? ⟨b, o, none⟩ = W.cell? ⟨b, o, none⟩) ∧ (∀ b o, b < W.heap.size → w1.frozen? ⟨b, o, none⟩ = W.frozen? ⟨b, o, none⟩) :=
  ⟨fun b o h => hb.cell (p := ⟨b, o, none⟩) h, fun b o h => hb.frozen (p := ⟨b, o, none⟩) h⟩
/- An expression's seven cells stand here. -/
structure ExAt (w : World) (b off : Nat) (cs : List Value) : Prop where
  lt : b < w.heap.size
  cell : ∀ j u, cs[j]? = some u → w.cell? ⟨b, off + j, none⟩ = some u
theorem ExAt.keeps {w w' : World} {b off : Nat} {cs : List Value} (h : ExAt w b off cs) (hz : w.heap.size ≤ w'.heap.size) (hb : w'.heap[b]? = w.heap[b]?) : ExAt w' b off cs :=
  ⟨Nat.lt_of_lt_of_le h.lt hz, fun j u hu => (World.cell?_of_block (a := ⟨b, off + j, none⟩) hb).trans (h.cell j u hu)⟩
theorem ExAt.all {w : World} {b off : Nat} {x0 x1 x2 x3 x4 x5 x6 : Value} (h : ExAt w b off [x0, x1, x2, x3, x4, x5, x6]) : w.cell? ⟨b, off, none⟩ = some x0 ∧ w.cell? ⟨b, off + 1, none⟩ = some x1 ∧ w.cell? ⟨b, off + 2, none⟩ = some x2 ∧ w.cell? ⟨b, off + 3, none⟩ = some x3 ∧ w.cell? ⟨b, off + 4, none⟩ = some x4 ∧ w.cell? ⟨b, off + 5, none⟩ = some x5 ∧ w.cell? ⟨b, off + 6, none⟩ = some x6 :=
  ⟨h.cell 0 _ rfl, h.cell 1 _ rfl, h.cell 2 _ rfl, h.cell 3 _ rfl, h.cell 4 _ rfl, h.cell 5 _ rfl, h.cell 6 _ rfl⟩
theorem beq0 (n : Nat) : (((n : Nat) : Int) == 0) = (n == 0) := by rw [Bool.eq_iff_iff]; simp
theorem beq1 (n : Nat) : (((n : Nat) : Int) == 1) = (n == 1) := by rw [Bool.eq_iff_iff]; simp; omega
theorem beq2 (n : Nat) : (((n : Nat) : Int) == 2) = (n == 2) := by rw [Bool.eq_iff_iff]; simp; omega
theorem emptyB (s : ByteArray) : s.toList.isEmpty = (s.data.toList == []) := by
  rw [Lex.list_of]
  cases s.data.toList <;> rfl
set_option maxRecDepth 100000 in
set_option maxHeartbeats 8000000 in
theorem aloneC {w : World} {S : Nat → Prop} {lim b off : Nat} {t : Tr} {cs : List Value} (hc : ExAt w b off cs) (ht : TrIs w S t cs) (hlv : LevAt w lim) :
    Calls Tryz.prog 56 #[.pointer (some ⟨b, off, none⟩)] w fun x w' => x = .returned (.bool (Par.aloneF t)) ∧ Below w.heap.size w w' := by
  cases ht with
  | @mk k p n ty s l a lv av css hs hl hr hcl hk =>
  have hlf := labFC hl
  obtain ⟨lo, lb, loff, lc, rfl, hlc, hlm, _⟩ := hl.toP
  obtain ⟨ao, ab, aoff, ac, rfl, har⟩ := hr
  have hac := har.cap
  have ham := har.mx
  obtain ⟨c0, c1, c2, c3, c4, c5, c6⟩ := hc.all
  have hlt := hc.lt
  have hnum := numC ty n w
  have hnm := scanName_any s w (by unfold maxLen at hs; omega)
  have hlev := levelC hlv s
  obtain ⟨ln, hln⟩ : ∃ ln, ln = l.length := ⟨_, rfl⟩
  obtain ⟨an, han⟩ : ∃ an, an = css.length := ⟨_, rfl⟩
  obtain ⟨r, hr⟩ : ∃ r, r = Par.aloneF (.mk k p n ty s l a) := ⟨_, rfl⟩
  have HR : Hid (r = (if k ≠ 1 ∧ (n ≠ 0 ∨ ty ≠ 0) then false else if k ≠ 5 ∧ 0 < ln then false
    else if k = 1 then Par.numOK ty n && (s.data.toList == []) && an == 0
    else if k = 2 then Par.nameOK s && an == 0
    else if k = 3 then (an == 2 && decide (0 < Par.levF s.data.toList)) || (an == 1 && (s.data.toList == [45] || s.data.toList == [33]))
    else if k = 4 then Par.nameOK s && decide (an ≤ 4)
    else if k = 5 then Par.labOK l && (s.data.toList == []) && an == 1
    else false)) := by show _ = _; rw [hr, han, hcl, hln]; rfl
  rw [← hr]
  rw [← hln] at c5 hlc hlf
  rw [← han] at c6 hac
  unfold maxLen at hlm ham hs
  have HE0 : Hid (s.toList.isEmpty = (s.data.toList == [])) := emptyB s
  have HE1 : Hid ((s.toList == [45]) = (s.data.toList == [45])) := by show _ = _; rw [Lex.list_of]
  have HE2 : Hid ((s.toList == [33]) = (s.data.toList == [33])) := by show _ = _; rw [Lex.list_of]
  clear hr hc har hln han hcl hk hl hlv
  rcases Nat.eq_zero_or_pos ln with hl0 | hl0
  · subst hl0
    by_cases k1 : k = 1
    · subst k1
      have HF : Hid (r = (Par.numOK ty n && (s.data.toList == []) && an == 0)) := by show _ = _; rw [HR.out]; simp
      clear HR hnm hlev hlf
      obtain ⟨t1, e1⟩ : ∃ t, t = Par.numOK ty n := ⟨_, rfl⟩
      have HNU : ∀ W : World, Calls Tryz.prog 87 #[.int .i64 ty, .int .i64 n] W fun x w' => x = .returned (.bool t1) ∧ w' = W := fun W => by rw [e1]; exact numC ty n W
      clear hnum
      rw [← e1] at HF
      rw [← HE0.out] at HF
      obtain ⟨t2, e2⟩ : ∃ t, s.toList.isEmpty = t := ⟨_, rfl⟩
      rw [e2] at HF
      clear e1 HE0 HE1 HE2
      cases t1 <;> cases t2 <;>
      · go_enter Tryz.func56, Tryz.ntmps56
        go_wp2
        go_quiet ((go_at_call 87; exact Calls.quiet_of_same (HNU _)))
        go_wp2
        go_ret
        exact ⟨by rw [HF.out]; first | rfl | (rw [Bool.true_and, Bool.true_and, ← beq0]; rfl), ⟨rfl, rfl, rfl, Nat.le_refl _, fun _ _ => rfl⟩⟩
    · have b1 : (k == 1) = false := by simp [k1]
      have g1 : (k != 1) = true := by simp [k1]
      by_cases n0 : n = 0
      · subst n0
        by_cases y0 : ty = 0
        · subst y0
          by_cases k2 : k = 2
          · subst k2
            have HF : Hid (r = (Par.nameOK s && an == 0)) := by show _ = _; rw [HR.out]; simp
            clear HR hnum hlev hlf k1
            unfold Par.nameOK at HF
            obtain ⟨t1, e1⟩ : ∃ t, t = Lex.nameF s.data.toList := ⟨_, rfl⟩
            rw [← e1] at hnm HF
            clear e1
            cases t1 <;>
            · go_enter Tryz.func56, Tryz.ntmps56
              go_wp2_with fail
              refine hnm.mono ?_
              rintro x w1 ⟨rfl, hw⟩
              have hw' := hw.symm
              subst hw'
              go_wp2
              go_ret
              exact ⟨by rw [HF.out]; simp [beq0], Below.refl _ _⟩
          · by_cases k3 : k = 3
            · subst k3
              have HF : Hid (r = ((an == 2 && decide (0 < Par.levF s.data.toList)) || (an == 1 && (s.data.toList == [45] || s.data.toList == [33])))) := by show _ = _; rw [HR.out]; simp
              clear HR hnum hnm hlf k1 k2 b1 g1
              obtain ⟨lev, e1⟩ : ∃ t, t = Par.levF s.data.toList := ⟨_, rfl⟩
              rw [← e1] at hlev HF
              clear e1
              by_cases a2 : an = 2
              · subst a2
                rcases Nat.eq_zero_or_pos lev with hv0 | hv0
                · subst hv0
                  go_enter Tryz.func56, Tryz.ntmps56
                  go_wp2_with fail
                  refine hlev.mono ?_
                  rintro x w1 ⟨rfl, hw⟩
                  have hw' := hw.symm
                  subst hw'
                  go_wp2
                  go_ret
                  exact ⟨by rw [HF.out]; rfl, Below.refl _ _⟩
                · have d0 : decide ((0 : Int) < (lev : Int)) = true := by simp; omega
                  go_enter Tryz.func56, Tryz.ntmps56
                  go_wp2_with fail
                  refine hlev.mono ?_
                  rintro x w1 ⟨rfl, hw⟩
                  have hw' := hw.symm
                  subst hw'
                  go_wp2
                  go_ret
                  exact ⟨by rw [HF.out]; simp [hv0], Below.refl _ _⟩
              · have q2 : ((an : Int) == 2) = false := by rw [beq2]; simp [a2]
                by_cases a1 : an = 1
                · subst a1
                  have HF2 : Hid (r = ((s.toList == [45]) || (s.toList == [33]))) := by show _ = _; rw [HF.out, HE1.out, HE2.out]; rfl
                  obtain ⟨t1, e1⟩ : ∃ t, (s.toList == [45]) = t := ⟨_, rfl⟩
                  obtain ⟨t2, e2⟩ : ∃ t, (s.toList == [33]) = t := ⟨_, rfl⟩
                  rw [e1, e2] at HF2
                  clear HF hlev a2 q2 HE0 HE1 HE2
                  cases t1 <;> cases t2 <;>
                  · go_enter Tryz.func56, Tryz.ntmps56
                    go_wp2
                    go_ret
                    exact ⟨by rw [HF2.out]; rfl, Below.refl _ _⟩
                · have q1 : ((an : Int) == 1) = false := by rw [beq1]; simp [a1]
                  have HF2 : Hid (r = false) := by show _ = _; rw [HF.out]; simp [a1, a2]
                  clear HF hlev a2 a1
                  go_enter Tryz.func56, Tryz.ntmps56
                  go_wp2
                  go_ret
                  exact ⟨by rw [HF2.out]; rfl, Below.refl _ _⟩
            · by_cases k4 : k = 4
              · subst k4
                have HF : Hid (r = (Par.nameOK s && decide (an ≤ 4))) := by show _ = _; rw [HR.out]; simp
                clear HR hnum hlev hlf k1 k2 k3 b1 g1
                unfold Par.nameOK at HF
                obtain ⟨t1, e1⟩ : ∃ t, t = Lex.nameF s.data.toList := ⟨_, rfl⟩
                rw [← e1] at hnm HF
                clear e1
                have HD : Hid (decide ((an : Int) ≤ 4) = decide (an ≤ 4)) := by show _ = _; simp; omega
                cases t1 <;>
                · go_enter Tryz.func56, Tryz.ntmps56
                  go_wp2_with fail
                  refine hnm.mono ?_
                  rintro x w1 ⟨rfl, hw⟩
                  have hw' := hw.symm
                  subst hw'
                  go_wp2
                  go_ret
                  exact ⟨by rw [HF.out, ← HD.out]; simp, Below.refl _ _⟩
              · by_cases k5 : k = 5
                · subst k5
                  have HF : Hid (r = (Par.labOK l && (s.data.toList == []) && an == 1)) := by show _ = _; rw [HR.out]; simp
                  rw [← HE0.out] at HF
                  obtain ⟨t1, e1⟩ : ∃ t, t = Par.labOK l := ⟨_, rfl⟩
                  obtain ⟨t2, e2⟩ : ∃ t, s.toList.isEmpty = t := ⟨_, rfl⟩
                  rw [← e1] at hlf HF
                  rw [e2] at HF
                  clear e1 HR hnum hlev hnm k1 k2 k3 k4 b1 g1 HE0 HE1 HE2
                  cases t1 <;> cases t2 <;>
                  · go_enter Tryz.func56, Tryz.ntmps56
                    go_wp2_with fail
                    refine hlf.mono ?_
                    rintro x w1 ⟨rfl, hb1⟩
                    obtain ⟨f1, f2⟩ := bcell hb1
                    have hz1 := hb1.size
                    have hlt1 : b < w1.heap.size := by omega
                    have HB1 : Hid (Below w.heap.size w w1) := hb1
                    clear hb1
                    go_wp2
                    go_ret
                    exact ⟨by rw [HF.out]; first | rfl | (rw [Bool.true_and, Bool.true_and, ← beq1]; rfl), HB1.out⟩
                · have HF : Hid (r = false) := by show _ = _; rw [HR.out]; simp [k1, k2, k3, k4, k5]
                  have b2 : (k == 2) = false := by simp [k2]
                  have b3 : (k == 3) = false := by simp [k3]
                  have b4 : (k == 4) = false := by simp [k4]
                  have b5 : (k == 5) = false := by simp [k5]
                  have g5 : (k != 5) = true := by simp [k5]
                  clear HR hnum hnm hlev hlf k1 k2 k3 k4 k5
                  go_enter Tryz.func56, Tryz.ntmps56
                  go_wp2
                  go_ret
                  exact ⟨by rw [HF.out]; rfl, Below.refl _ _⟩
        · have b2 : (ty != 0) = true := by simp [y0]
          have HF : Hid (r = false) := by show _ = _; rw [HR.out]; simp [k1, y0]
          clear HR hnum hnm hlev hlf k1 y0
          go_enter Tryz.func56, Tryz.ntmps56
          go_wp2
          go_ret
          exact ⟨by rw [HF.out]; rfl, Below.refl _ _⟩
      · have b2 : (n != 0) = true := by simp [n0]
        have HF : Hid (r = false) := by show _ = _; rw [HR.out]; simp [k1, n0]
        clear HR hnum hnm hlev hlf k1 n0
        go_enter Tryz.func56, Tryz.ntmps56
        go_wp2
        go_ret
        exact ⟨by rw [HF.out]; rfl, Below.refl _ _⟩
  · by_cases k1 : k = 1
    · subst k1
      have HF : Hid (r = false) := by show _ = _; rw [HR.out]; simp [hl0]
      clear HR hnum hnm hlev hlf
      go_enter Tryz.func56, Tryz.ntmps56
      go_wp2
      go_ret
      exact ⟨by rw [HF.out]; rfl, Below.refl _ _⟩
    · have b1 : (k == 1) = false := by simp [k1]
      have g1 : (k != 1) = true := by simp [k1]
      by_cases n0 : n = 0
      · subst n0
        by_cases y0 : ty = 0
        · subst y0
          by_cases k5 : k = 5
          · subst k5
            have HF : Hid (r = (Par.labOK l && (s.data.toList == []) && an == 1)) := by show _ = _; rw [HR.out]; simp
            rw [← HE0.out] at HF
            obtain ⟨t1, e1⟩ : ∃ t, t = Par.labOK l := ⟨_, rfl⟩
            obtain ⟨t2, e2⟩ : ∃ t, s.toList.isEmpty = t := ⟨_, rfl⟩
            rw [← e1] at hlf HF
            rw [e2] at HF
            clear e1 HR hnum hlev hnm k1 b1 g1 HE0 HE1 HE2
            cases t1 <;> cases t2 <;>
            · go_enter Tryz.func56, Tryz.ntmps56
              go_wp2_with fail
              refine hlf.mono ?_
              rintro x w1 ⟨rfl, hb1⟩
              obtain ⟨f1, f2⟩ := bcell hb1
              have hz1 := hb1.size
              have hlt1 : b < w1.heap.size := by omega
              have HB1 : Hid (Below w.heap.size w w1) := hb1
              clear hb1
              go_wp2
              go_ret
              exact ⟨by rw [HF.out]; first | rfl | (rw [Bool.true_and, Bool.true_and, ← beq1]; rfl), HB1.out⟩
          · have HF : Hid (r = false) := by show _ = _; rw [HR.out]; simp [k1, k5, hl0]
            have g5 : (k != 5) = true := by simp [k5]
            clear HR hnum hnm hlev hlf k1 k5
            go_enter Tryz.func56, Tryz.ntmps56
            go_wp2
            go_ret
            exact ⟨by rw [HF.out]; rfl, Below.refl _ _⟩
        · have b2 : (ty != 0) = true := by simp [y0]
          have HF : Hid (r = false) := by show _ = _; rw [HR.out]; simp [k1, y0]
          clear HR hnum hnm hlev hlf k1 y0
          go_enter Tryz.func56, Tryz.ntmps56
          go_wp2
          go_ret
          exact ⟨by rw [HF.out]; rfl, Below.refl _ _⟩
      · have b2 : (n != 0) = true := by simp [n0]
        have HF : Hid (r = false) := by show _ = _; rw [HR.out]; simp [k1, n0]
        clear HR hnum hnm hlev hlf k1 n0
        go_enter Tryz.func56, Tryz.ntmps56
        go_wp2
        go_ret
        exact ⟨by rw [HF.out]; rfl, Below.refl _ _⟩
end Go.Proofs.YtcdeicfegfedfaaGreatDoor
