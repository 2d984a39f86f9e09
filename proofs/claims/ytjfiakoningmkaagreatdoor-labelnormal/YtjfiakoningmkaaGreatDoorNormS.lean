/- sort.Strings at a row of a call's own; the document's less of two keys. -/
import Derived.Test.YtjfiakoningmkaaGreatDoorGaKey
import Derived.Deep.RegionHeld3
namespace Go.Proofs.YtjfiakoningmkaaGreatDoor
open Go.RowKit Go.Sort

theorem zeroPol (w : World) : (zeroValue 37).run Tryz.prog w = .ok (.agg #[.string ⟨#[]⟩, .slice none 0 0]) w := by kernel_rfl
theorem underMap : Tryz.prog.underlying 63 = some (.map 9 37) := Tryz.underlying63

theorem lt_same {o o' : ByteArray} {rs rs' : List ByteArray} (h : o = o') : ltOf cmpP (o, rs) (o', rs') = decide (cmpR rs rs' < 0) := by
  subst h
  have e := cmpP_eq (o, rs) (o, rs')
  have e0 : cmpS o o = 0 := cmpS_zero.2 rfl
  unfold ltOf
  rw [e]
  simp [e0]
theorem lt_diff {o o' : ByteArray} {rs rs' : List ByteArray} (h : o ≠ o') : ltOf cmpP (o, rs) (o', rs') = decide (o.data.toList < o'.data.toList) := by
  have e := cmpP_eq (o, rs) (o', rs')
  have e0 : cmpS o o' ≠ 0 := fun h0 => h (cmpS_zero.1 h0)
  unfold ltOf
  rw [e]
  simp only [e0, ne_eq, not_false_eq_true, if_true]
  unfold cmpS cmpI
  by_cases h1 : o.data.toList < o'.data.toList
  · simp [h1]
  · by_cases h2 : o'.data.toList < o.data.toList <;> simp [h1, h2]

set_option maxRecDepth 100000 in
set_option maxHeartbeats 4000000 in
theorem lessN (b1 b2 Bm Nm blk cap n i j : Nat) (f : ByteArray → Option Value) (p q : Pol) (u v : Value) (W : World) (c1 : W.cell? ⟨b1, 0, none⟩ = some (.map (some Bm))) (c2 : W.cell? ⟨b2, 0, none⟩ = some (.slice (some ⟨blk, 0, none⟩) n cap)) (hi : i < n) (hj : j < n)
    (ki : W.cell? ⟨blk, i, none⟩ = some (.string (keyF p))) (kj : W.cell? ⟨blk, j, none⟩ = some (.string (keyF q))) (hm : MapV W Bm Nm f) (fp : f (keyF p) = some (.agg #[.string p.1, u])) (fq : f (keyF q) = some (.agg #[.string q.1, v])) (hu : ReadersAt W u p.2) (hv : ReadersAt W v q.2) (sp : (keyF p).size ≤ 1000) (sq : (keyF q).size ≤ 1000) (h6 : p.2.length ≤ 1000) :
    Calls Tryz.prog 34 #[.int .i64 i, .int .i64 j, .pointer (some ⟨b1, 0, none⟩), .pointer (some ⟨b2, 0, none⟩)] W fun e w' => e = .returned (.bool (ltOf cmpP p q)) ∧ W.grownBy w' none := by
  have hml : ∀ W', W.grownBy W' none → MapV W' Bm Nm f := fun W' hg => hm.kept (row := none) hg (by simp)
  have L1 := fun W' hg => (hml W' hg).hit underMap (zeroPol _) (by unfold maxLen; omega) fp
  have L2 := fun W' hg => (hml W' hg).hit underMap (zeroPol _) (by unfold maxLen; omega) fq
  have l1 : b1 < W.heap.size := World.block_lt_of_cell? W _ c1
  have l2 : b2 < W.heap.size := World.block_lt_of_cell? W _ c2
  have l3 : blk < W.heap.size := World.block_lt_of_cell? W _ ki
  obtain ⟨o, rs⟩ := p
  obtain ⟨o', rs'⟩ := q
  obtain ⟨ro, rb, roff, rc, hu1, _, _, hu4⟩ := hu
  obtain ⟨ro', rb', roff', rc', hv1, _, _, hv4⟩ := hv
  subst hu1 hv1
  simp only at hu4 hv4 h6 L1 L2 ki kj
  obtain ⟨kp, hkp⟩ : ∃ kp, kp = keyF (o, rs) := ⟨_, rfl⟩
  obtain ⟨kq, hkq⟩ : ∃ kq, kq = keyF (o', rs') := ⟨_, rfl⟩
  simp only [← hkp] at ki L1
  simp only [← hkq] at kj L2
  obtain ⟨m, hm1⟩ : ∃ m, m = rs.length := ⟨_, rfl⟩
  obtain ⟨m', hm2⟩ : ∃ m', m' = rs'.length := ⟨_, rfl⟩
  simp only [← hm1] at L1
  simp only [← hm2] at L2
  have HM1 : Hid (m = rs.length) := hm1
  have HM2 : Hid (m' = rs'.length) := hm2
  have HU : Hid (Strs W ro rb roff rs) := hu4
  have HV : Hid (Strs W ro' rb' roff' rs') := hv4
  clear hm hml hm1 hm2 hu4 hv4 fp fq sp sq hkp hkq
  have HALL : Hid (∀ w', W.grownBy w' none → W.grownBy w' none ∧ w'.cell? ⟨b1, 0, none⟩ = some (.map (some Bm)) ∧ w'.cell? ⟨b2, 0, none⟩ = some (.slice (some ⟨blk, 0, none⟩) n cap) ∧ w'.cell? ⟨blk, i, none⟩ = some (.string kp) ∧ w'.cell? ⟨blk, j, none⟩ = some (.string kq) ∧ (Instr.lookup 63 (.map (some Bm)) (.string kp) false).run Tryz.prog w' = .ok (.agg #[.string o, .slice ro m rc]) w' ∧ (Instr.lookup 63 (.map (some Bm)) (.string kq) false).run Tryz.prog w' = .ok (.agg #[.string o', .slice ro' m' rc']) w') := fun w' hg =>
    ⟨hg, by rw [World.cell?_of_block (a := ⟨b1, 0, none⟩) (hg.block _ l1 (by simp))]; exact c1, by rw [World.cell?_of_block (a := ⟨b2, 0, none⟩) (hg.block _ l2 (by simp))]; exact c2, by rw [World.cell?_of_block (a := ⟨blk, i, none⟩) (hg.block _ l3 (by simp))]; exact ki, by rw [World.cell?_of_block (a := ⟨blk, j, none⟩) (hg.block _ l3 (by simp))]; exact kj, L1 w' hg, L2 w' hg⟩
  clear L1 L2
  by_cases he : o = o'
  · have q0 : (o.toList == o'.toList) = true := by rw [he]; simp
    have HLT : Hid (ltOf cmpP (o, rs) (o', rs') = decide (cmpR rs rs' < 0)) := lt_same he
    have HCM : Hid (∀ W', W.grownBy W' none → Calls Tryz.prog 35 #[.slice ro m rc, .slice ro' m' rc'] W' fun e w' => e = .returned (.int .i64 (cmpR rs rs')) ∧ w' = W') := fun W' hg =>
      cmpR_any ro ro' rb roff rb' roff' m m' rc rc' rs rs' W' HM1.out HM2.out (by have := HM1.out; omega) (strs_kept HU.out hg (fun _ => by simp)) (strs_kept HV.out hg (fun _ => by simp))
    rw [HLT.out]
    obtain ⟨z, hz⟩ : ∃ z, z = cmpR rs rs' := ⟨_, rfl⟩
    rw [← hz] at HCM ⊢
    clear hz HLT he HM1 HM2 HU HV h6
    go_enter Tryz.func34, Tryz.ntmps34
    go_wp2
    go_region_held3 (fun w' => W.grownBy w' none ∧ w'.cell? ⟨b1, 0, none⟩ = some (.map (some Bm)) ∧ w'.cell? ⟨b2, 0, none⟩ = some (.slice (some ⟨blk, 0, none⟩) n cap) ∧ w'.cell? ⟨blk, i, none⟩ = some (.string kp) ∧ w'.cell? ⟨blk, j, none⟩ = some (.string kq) ∧ (Instr.lookup 63 (.map (some Bm)) (.string kp) false).run Tryz.prog w' = .ok (.agg #[.string o, .slice ro m rc]) w' ∧ (Instr.lookup 63 (.map (some Bm)) (.string kq) false).run Tryz.prog w' = .ok (.agg #[.string o', .slice ro' m' rc']) w')
      ((refine HALL.out _ ?_; repeat (first | exact grown_refl _ _ | apply grown_drew | refine grown_alloc ?_ _ | refine grown_setNew ?_ (by simp) _))) (fail)
    all_goals (have HG := (‹W.grownBy _ none ∧ _›).1)
    all_goals clear ki kj c1 c2 HALL
    all_goals go_wp2_with fail
    all_goals (refine (HCM.out _ (by assumption)).mono ?_; rintro e w1 ⟨rfl, hw1⟩; have hw1' := hw1.symm; subst hw1')
    all_goals go_wp2
    all_goals go_ret
    all_goals exact ⟨rfl, HG⟩
  · have q0 : (o.toList == o'.toList) = false := beq_ne he
    have HLT : Hid (ltOf cmpP (o, rs) (o', rs') = Op.bytesLess o.toList o'.toList) := by show _ = _; rw [lt_diff he, less_dec]
    rw [HLT.out]
    clear he HLT HM1 HM2 HU HV h6
    go_enter Tryz.func34, Tryz.ntmps34
    go_wp2
    go_region_held3 (fun w' => W.grownBy w' none ∧ w'.cell? ⟨b1, 0, none⟩ = some (.map (some Bm)) ∧ w'.cell? ⟨b2, 0, none⟩ = some (.slice (some ⟨blk, 0, none⟩) n cap) ∧ w'.cell? ⟨blk, i, none⟩ = some (.string kp) ∧ w'.cell? ⟨blk, j, none⟩ = some (.string kq) ∧ (Instr.lookup 63 (.map (some Bm)) (.string kp) false).run Tryz.prog w' = .ok (.agg #[.string o, .slice ro m rc]) w' ∧ (Instr.lookup 63 (.map (some Bm)) (.string kq) false).run Tryz.prog w' = .ok (.agg #[.string o', .slice ro' m' rc']) w')
      ((refine HALL.out _ ?_; repeat (first | exact grown_refl _ _ | apply grown_drew | refine grown_alloc ?_ _ | refine grown_setNew ?_ (by simp) _))) (fail)
    all_goals (have HG := (‹W.grownBy _ none ∧ _›).1)
    all_goals clear ki kj c1 c2 HALL
    all_goals go_wp2
    all_goals go_ret
    all_goals exact ⟨rfl, HG⟩
end Go.Proofs.YtjfiakoningmkaaGreatDoor
