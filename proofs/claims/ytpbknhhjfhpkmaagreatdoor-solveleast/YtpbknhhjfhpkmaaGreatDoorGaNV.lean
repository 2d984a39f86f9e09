/- sort.Strings at a row of a call's own; the document's less of two keys. The document's keys sorted; which policies stay. -/
import Derived.Test.YtpbknhhjfhpkmaaGreatDoorGaKey
import Derived.Deep.RegionHeld3
import Derived.Test.YtpbknhhjfhpkmaaGreatDoorGaSrtD
namespace Go.Proofs.YtpbknhhjfhpkmaaGreatDoor
open Go.RowKit Go.Sort

theorem zeroPol (w : World) : (zeroValue 63).run Tryz.prog w = .ok (.agg #[.string ⟨#[]⟩, .slice none 0 0]) w := by kernel_rfl
theorem underMap : Tryz.prog.underlying 71 = some (.map 9 63) := Tryz.underlying71

theorem lt_same {o o' : ByteArray} {rs rs' : List ByteArray} (h : o = o') : ltOf cmpP (o, rs) (o', rs') = decide (cmpR rs rs' < 0) := by
  subst h
  have e := cmpP_eq (o, rs) (o, rs')
  have e0 : cmpS o o = 0 := cmpS_zero.2 rfl
  unfold ltOf
  rw [e]
  simp [e0]
theorem lt_diff {o o' : ByteArray} {rs rs' : List ByteArray} (h : o ≠ o') : ltOf cmpP (o, rs) (o', rs') = decide (o.data.toList < o'.data.toList) := by
  have e := cmpP_eq (o, rs) (o', rs')
  have e0 : cmpS o o' ≠ 0 := fun h0 => h (cmpS_zero.1 h0)
  unfold ltOf
  rw [e]
  simp only [e0, ne_eq, not_false_eq_true, if_true]
  unfold cmpS cmpI
  by_cases h1 : o.data.toList < o'.data.toList
  · simp [h1]
  · by_cases h2 : o'.data.toList < o.data.toList <;> simp [h1, h2]

set_option maxRecDepth 100000 in
set_option maxHeartbeats 4000000 in
theorem lessN (b1 b2 Bm Nm blk cap n i j : Nat) (f : ByteArray → Option Value) (p q : Pol) (u v : Value) (W : World) (c1 : W.cell? ⟨b1, 0, none⟩ = some (.map (some Bm))) (c2 : W.cell? ⟨b2, 0, none⟩ = some (.slice (some ⟨blk, 0, none⟩) n cap)) (hi : i < n) (hj : j < n)
    (ki : W.cell? ⟨blk, i, none⟩ = some (.string (keyF p))) (kj : W.cell? ⟨blk, j, none⟩ = some (.string (keyF q))) (hm : MapV W Bm Nm f) (fp : f (keyF p) = some (.agg #[.string p.1, u])) (fq : f (keyF q) = some (.agg #[.string q.1, v])) (hu : ReadersAt W u p.2) (hv : ReadersAt W v q.2) (sp : (keyF p).size ≤ 1000) (sq : (keyF q).size ≤ 1000) (h6 : p.2.length ≤ 1000) :
    Calls Tryz.prog 36 #[.int .i64 i, .int .i64 j, .pointer (some ⟨b1, 0, none⟩), .pointer (some ⟨b2, 0, none⟩)] W fun e w' => e = .returned (.bool (ltOf cmpP p q)) ∧ W.grownBy w' none := by
  have hml : ∀ W', W.grownBy W' none → MapV W' Bm Nm f := fun W' hg => hm.kept (row := none) hg (by simp)
  have L1 := fun W' hg => (hml W' hg).hit underMap (zeroPol _) (by unfold maxLen; omega) fp
  have L2 := fun W' hg => (hml W' hg).hit underMap (zeroPol _) (by unfold maxLen; omega) fq
  have l1 : b1 < W.heap.size := World.block_lt_of_cell? W _ c1
  have l2 : b2 < W.heap.size := World.block_lt_of_cell? W _ c2
  have l3 : blk < W.heap.size := World.block_lt_of_cell? W _ ki
  obtain ⟨o, rs⟩ := p
  obtain ⟨o', rs'⟩ := q
  obtain ⟨ro, rb, roff, rc, hu1, _, _, hu4⟩ := hu
  obtain ⟨ro', rb', roff', rc', hv1, _, _, hv4⟩ := hv
  subst hu1 hv1
  simp only at hu4 hv4 h6 L1 L2 ki kj
  obtain ⟨kp, hkp⟩ : ∃ kp, kp = keyF (o, rs) := ⟨_, rfl⟩
  obtain ⟨kq, hkq⟩ : ∃ kq, kq = keyF (o', rs') := ⟨_, rfl⟩
  simp only [← hkp] at ki L1
  simp only [← hkq] at kj L2
  obtain ⟨m, hm1⟩ : ∃ m, m = rs.length := ⟨_, rfl⟩
  obtain ⟨m', hm2⟩ : ∃ m', m' = rs'.length := ⟨_, rfl⟩
  simp only [← hm1] at L1
  simp only [← hm2] at L2
  have HM1 : Hid (m = rs.length) := hm1
  have HM2 : Hid (m' = rs'.length) := hm2
  have HU : Hid (Strs W ro rb roff rs) := hu4
  have HV : Hid (Strs W ro' rb' roff' rs') := hv4
  clear hm hml hm1 hm2 hu4 hv4 fp fq sp sq hkp hkq
  have HALL : Hid (∀ w', W.grownBy w' none → W.grownBy w' none ∧ w'.cell? ⟨b1, 0, none⟩ = some (.map (some Bm)) ∧ w'.cell? ⟨b2, 0, none⟩ = some (.slice (some ⟨blk, 0, none⟩) n cap) ∧ w'.cell? ⟨blk, i, none⟩ = some (.string kp) ∧ w'.cell? ⟨blk, j, none⟩ = some (.string kq) ∧ (Instr.lookup 71 (.map (some Bm)) (.string kp) false).run Tryz.prog w' = .ok (.agg #[.string o, .slice ro m rc]) w' ∧ (Instr.lookup 71 (.map (some Bm)) (.string kq) false).run Tryz.prog w' = .ok (.agg #[.string o', .slice ro' m' rc']) w') := fun w' hg =>
    ⟨hg, by rw [World.cell?_of_block (a := ⟨b1, 0, none⟩) (hg.block _ l1 (by simp))]; exact c1, by rw [World.cell?_of_block (a := ⟨b2, 0, none⟩) (hg.block _ l2 (by simp))]; exact c2, by rw [World.cell?_of_block (a := ⟨blk, i, none⟩) (hg.block _ l3 (by simp))]; exact ki, by rw [World.cell?_of_block (a := ⟨blk, j, none⟩) (hg.block _ l3 (by simp))]; exact kj, L1 w' hg, L2 w' hg⟩
  clear L1 L2
  by_cases he : o = o'
  · have q0 : (o.toList == o'.toList) = true := by rw [he]; simp
    have HLT : Hid (ltOf cmpP (o, rs) (o', rs') = decide (cmpR rs rs' < 0)) := lt_same he
    have HCM : Hid (∀ W', W.grownBy W' none → Calls Tryz.prog 37 #[.slice ro m rc, .slice ro' m' rc'] W' fun e w' => e = .returned (.int .i64 (cmpR rs rs')) ∧ w' = W') := fun W' hg =>
      cmpR_any ro ro' rb roff rb' roff' m m' rc rc' rs rs' W' HM1.out HM2.out (by have := HM1.out; omega) (strs_kept HU.out hg (fun _ => by simp)) (strs_kept HV.out hg (fun _ => by simp))
    rw [HLT.out]
    obtain ⟨z, hz⟩ : ∃ z, z = cmpR rs rs' := ⟨_, rfl⟩
    rw [← hz] at HCM ⊢
    clear hz HLT he HM1 HM2 HU HV h6
    go_enter Tryz.func36, Tryz.ntmps36
    go_wp2
    go_region_held3 (fun w' => W.grownBy w' none ∧ w'.cell? ⟨b1, 0, none⟩ = some (.map (some Bm)) ∧ w'.cell? ⟨b2, 0, none⟩ = some (.slice (some ⟨blk, 0, none⟩) n cap) ∧ w'.cell? ⟨blk, i, none⟩ = some (.string kp) ∧ w'.cell? ⟨blk, j, none⟩ = some (.string kq) ∧ (Instr.lookup 71 (.map (some Bm)) (.string kp) false).run Tryz.prog w' = .ok (.agg #[.string o, .slice ro m rc]) w' ∧ (Instr.lookup 71 (.map (some Bm)) (.string kq) false).run Tryz.prog w' = .ok (.agg #[.string o', .slice ro' m' rc']) w')
      ((refine HALL.out _ ?_; repeat (first | exact grown_refl _ _ | apply grown_drew | refine grown_alloc ?_ _ | refine grown_setNew ?_ (by simp) _))) (fail)
    all_goals (have HG := (‹W.grownBy _ none ∧ _›).1)
    all_goals clear ki kj c1 c2 HALL
    all_goals go_wp2_with fail
    all_goals (refine (HCM.out _ (by assumption)).mono ?_; rintro e w1 ⟨rfl, hw1⟩; have hw1' := hw1.symm; subst hw1')
    all_goals go_wp2
    all_goals go_ret
    all_goals exact ⟨rfl, HG⟩
  · have q0 : (o.toList == o'.toList) = false := beq_ne he
    have HLT : Hid (ltOf cmpP (o, rs) (o', rs') = Op.bytesLess o.toList o'.toList) := by show _ = _; rw [lt_diff he, less_dec]
    rw [HLT.out]
    clear he HLT HM1 HM2 HU HV h6
    go_enter Tryz.func36, Tryz.ntmps36
    go_wp2
    go_region_held3 (fun w' => W.grownBy w' none ∧ w'.cell? ⟨b1, 0, none⟩ = some (.map (some Bm)) ∧ w'.cell? ⟨b2, 0, none⟩ = some (.slice (some ⟨blk, 0, none⟩) n cap) ∧ w'.cell? ⟨blk, i, none⟩ = some (.string kp) ∧ w'.cell? ⟨blk, j, none⟩ = some (.string kq) ∧ (Instr.lookup 71 (.map (some Bm)) (.string kp) false).run Tryz.prog w' = .ok (.agg #[.string o, .slice ro m rc]) w' ∧ (Instr.lookup 71 (.map (some Bm)) (.string kq) false).run Tryz.prog w' = .ok (.agg #[.string o', .slice ro' m' rc']) w')
      ((refine HALL.out _ ?_; repeat (first | exact grown_refl _ _ | apply grown_drew | refine grown_alloc ?_ _ | refine grown_setNew ?_ (by simp) _))) (fail)
    all_goals (have HG := (‹W.grownBy _ none ∧ _›).1)
    all_goals clear ki kj c1 c2 HALL
    all_goals go_wp2
    all_goals go_ret
    all_goals exact ⟨rfl, HG⟩
end Go.Proofs.YtpbknhhjfhpkmaaGreatDoor

namespace Go.Proofs.YtpbknhhjfhpkmaaGreatDoor
open Go.RowKit Go.Sort

theorem swoK : SWO (ltOf cmpP) := swoP (α := Pol) id
theorem ltK_iff (x y : Pol) : ltOf cmpP x y = true ↔ plt x y := ltOf_iff (α := Pol) id x y
theorem ltK_not (x y : Pol) : ltOf cmpP x y = false ↔ ¬ plt x y := ltOf_not (α := Pol) id x y

/- What the sort leaves. -/
def KeyPost (base : Nat) (kv : Value) (kn : Nat) (L : List Pol) (wr w' : World) : Prop := ∃ R : List Pol, R.Perm L ∧ R.Pairwise plt ∧ w'.ownsRow base 9 1 kv kn (strC (R.map keyF)) ∧ wr.grownBy w' kv.ownBlock

theorem sortKeys (w wr : World) (x L : List Pol) (k kn kc : Nat) (ko : Option Addr) (val : Pol → Value) (f : ByteArray → Option Value) (h : NSt w wr x k L val f (.slice ko kn kc)) (hkn : kn = L.length) (hm : kn ≤ 1000) (hsz : ∀ c ∈ L, (keyF c).size ≤ 1000) (h6 : ∀ c ∈ L, c.2.length ≤ 6) :
    Calls Tryz.prog 35 #[.iface 22 (.slice ko kn kc), .func (.func 36) #[] #[.pointer (some ⟨w.heap.size + 1, 0, none⟩), .pointer (some ⟨w.heap.size + 2, 0, none⟩)]] wr fun e w' => e = .returned (.tuple #[]) ∧ KeyPost (w.heap.size + 3) (.slice ko kn kc) kn L wr w' := by
  have hown : wr.ownsRow (w.heap.size + 3) 9 1 (.slice ko kn kc) kn (strC (L.map keyF)) := by have h9 := h.own; rw [← hkn] at h9; exact h9
  by_cases h1 : kn ≤ 1
  · refine (slice_tiny ko kn kc h1 _ _ wr).mono ?_
    rintro e w' ⟨rfl, hg⟩
    refine ⟨rfl, L, List.Perm.refl _, ?_, hown.kept hg (by cases (Value.slice ko kn kc).ownBlock <;> simp), gany _ hg⟩
    match L, hkn with
    | [], _ => exact List.Pairwise.nil
    | [a], _ => exact List.pairwise_singleton _ _
    | a :: b :: r, e => simp at e; omega
  · rcases hown.2 with ⟨_, h0⟩ | ⟨g, cap, cur, hv, hg, hh, hc1, hc2, hcs, htk⟩
    · omega
    · injection hv with hv1 hv2 hv3
      subst hv1 hv3
      haveI : Inhabited Pol := ⟨(⟨#[]⟩, [])⟩
      have hrow : ∀ k (hk : k < L.length), cur[k]? = some (.string (keyF L[k])) := fun j hj => by
        have e1 : (strC (L.map keyF))[j]? = some (.string (keyF L[j])) := by simp [strC, hj]
        rw [← htk, Nat.mul_one, List.getElem?_take_of_lt (by omega), Array.getElem?_toList] at e1
        exact e1
      refine (slice_some wr g kc kn keyF L (ltOf cmpP) swoK 36 _ hkn.symm (by omega) (by omega) hc1 cur hh (by omega) hrow (enters_of Tryz.func36 (by kernel_rfl) rfl) ?_).mono ?_
      · intro W d hS i j hi hj
        have hds : d.size = kn := by rw [hS.size, hkn]
        have hi' : i < d.size := by omega
        have hj' : j < d.size := by omega
        have mi : d[i] ∈ L := hS.perm.mem_iff.1 (by simp)
        have mj : d[j] ∈ L := hS.perm.mem_iff.1 (by simp)
        have blk : ∀ q X, wr.heap[q]? = some X → q ≠ g → W.heap[q]? = some X := fun q X hq hne => (hS.gr.block q (lt_of_block hq) (by intro e; injection e with e; exact hne e)).trans hq
        have k0 := blk _ _ h.bx0 (by omega)
        have k1 := blk _ _ h.bx1 (by omega)
        have rd : ∀ c ∈ L, ReadersAt W (val c) c.2 := fun c hc => by
          obtain ⟨ro, rb, roff, rc, q1, q2, q3, q4, q5⟩ := h.off c hc
          exact ⟨ro, rb, roff, rc, q1, q2, q3, strs_kept q4 hS.gr (fun hp => (q5 hp).2)⟩
        rw [getElem!_pos d i hi', getElem!_pos d j hj']
        refine lessN (w.heap.size + 1) (w.heap.size + 2) w.heap.size k g kc kn i j f d[i] d[j] (val d[i]) (val d[j]) W (by simp [World.cell?, k0]) (by simp [World.cell?, k1]) hi hj (hS.cell i hi') (hS.cell j hj') (h.map.kept hS.gr (by intro e; injection e with e; omega)) (h.hit _ mi) (h.hit _ mj) (rd _ mi) (rd _ mj) (hsz _ mi) (hsz _ mj) (by have := h6 _ mi; omega)
      · rintro e w' ⟨rfl, d, hS, hso⟩
        obtain ⟨cur', q1, q2, q3⟩ := hS.row
        have hds : d.size = kn := by rw [hS.size, hkn]
        refine ⟨rfl, d.toList, hS.perm, ?_, ⟨by simp [strC, hds], .inr ⟨g, kc, cur', rfl, hg, q1, hc1, hc2, by omega, ?_⟩⟩, hS.gr⟩
        · have hnd : d.toList.Nodup := hS.perm.nodup_iff.2 h.nodup
          rw [List.pairwise_iff_getElem]
          intro i j hi hj hij
          have hi' : i < d.size := by simpa using hi
          have hj' : j < d.size := by simpa using hj
          have h9 := hso i j (Nat.zero_le _) hij (by omega)
          rw [getElem!_pos d i hi', getElem!_pos d j hj', ltK_not] at h9
          have hne : d.toList[i] ≠ d.toList[j] := List.pairwise_iff_getElem.1 hnd i j hi hj hij
          simp only [Array.getElem_toList] at hne ⊢
          rcases plt_order.tot hne with e1 | e1
          · exact e1
          · exact absurd e1 h9
        · rw [Nat.mul_one]
          apply List.ext_getElem?
          intro i
          by_cases hi : i < kn
          · rw [List.getElem?_take_of_lt hi, Array.getElem?_toList, q3 i (by omega)]
            simp [strC, show i < d.size by omega]
          · rw [List.getElem?_eq_none (by simp [List.length_take]; omega), List.getElem?_eq_none (by simp [strC]; omega)]

/- Which stay. -/
def badB (cov : Pol → Pol → Bool) (R : List Pol) (i k : Nat) : Bool := decide (k ≠ i) && (cov (R.getD k (⟨#[]⟩, [])) (R.getD i (⟨#[]⟩, [])) && (!cov (R.getD i (⟨#[]⟩, [])) (R.getD k (⟨#[]⟩, [])) || decide (k < i)))
def stayF (cov : Pol → Pol → Bool) (R : List Pol) (i m : Nat) : Bool := !((List.range m).any fun k => badB cov R i k)
def outF (cov : Pol → Pol → Bool) (R : List Pol) (val : Pol → Value) (m : Nat) : List PV := ((List.range m).filter fun i => stayF cov R i R.length).map fun i => (R.getD i (⟨#[]⟩, []), val (R.getD i (⟨#[]⟩, [])))
theorem stay_step (cov : Pol → Pol → Bool) (R : List Pol) (i k : Nat) : stayF cov R i (k + 1) = (stayF cov R i k && !badB cov R i k) := by
  simp [stayF, List.range_succ, List.any_append]
theorem out_step (cov : Pol → Pol → Bool) (R : List Pol) (val : Pol → Value) (m : Nat) : outF cov R val (m + 1) = outF cov R val m ++ (if stayF cov R m R.length = true then [(R.getD m (⟨#[]⟩, []), val (R.getD m (⟨#[]⟩, [])))] else []) := by
  unfold outF
  rw [List.range_succ, List.filter_append, List.map_append]
  congr 1
  cases h : stayF cov R m R.length <;> simp [h]
theorem out_sub {cov : Pol → Pol → Bool} {R : List Pol} {val : Pol → Value} {m : Nat} (hm : m ≤ R.length) : ∀ y ∈ outF cov R val m, y.1 ∈ R ∧ y.2 = val y.1 := by
  intro y hy
  obtain ⟨i, hi, rfl⟩ := List.mem_map.1 hy
  have hi' : i < m := List.mem_range.1 (List.mem_filter.1 hi).1
  refine ⟨?_, rfl⟩
  simp only [List.getD_eq_getElem?_getD, List.getElem?_eq_getElem (show i < R.length by omega), Option.getD_some]
  exact List.getElem_mem _
theorem out_len (cov : Pol → Pol → Bool) (R : List Pol) (val : Pol → Value) (m : Nat) : (outF cov R val m).length ≤ m := by
  unfold outF
  rw [List.length_map]
  exact Nat.le_trans (List.length_filter_le _ _) (by simp)
theorem norm_out {cov : Pol → Pol → Bool} {ps : List (ByteArray × ByteArray)} {x R : List Pol} {val : Pol → Value} (hR : ∀ c, c ∈ R ↔ Lab.cleaned blt x c) (hs : R.Pairwise plt) (hc : ∀ a ∈ R, ∀ b ∈ R, cov a b = true ↔ Lab.covers ps a b) : Lab.Norm blt plt ps x ((outF cov R val R.length).map (·.1)) := by
  have gd : ∀ i (h : i < R.length), R.getD i (⟨#[]⟩, []) = R[i] := fun i h => by simp [h]
  have e0 : (outF cov R val R.length).map (·.1) = ((List.range R.length).filter fun i => stayF cov R i R.length).map fun i => R.getD i (⟨#[]⟩, []) := by
    unfold outF; rw [List.map_map]; rfl
  have hlt : ∀ i j (hi : i < R.length) (hj : j < R.length), i < j → plt R[i] R[j] := fun i j hi hj h => List.pairwise_iff_getElem.1 hs i j hi hj h
  have st : ∀ i, i < R.length → (stayF cov R i R.length = true ↔ ∀ k (hk : k < R.length), k ≠ i → cov R[k] (R.getD i (⟨#[]⟩, [])) = true → cov (R.getD i (⟨#[]⟩, [])) R[k] = true ∧ ¬ k < i) := by
    intro i hi
    unfold stayF
    rw [Bool.not_eq_true', List.any_eq_false]
    constructor
    · intro h k hk hne hcv
      have h9 := h k (List.mem_range.2 hk)
      unfold badB at h9
      rw [gd k hk] at h9
      simp only [hcv, Bool.true_and, Bool.and_eq_true, decide_eq_true_eq, Bool.or_eq_true, Bool.not_eq_true', not_and, not_or, Bool.not_eq_false] at h9
      exact h9 hne
    · intro h k hk
      have hk' := List.mem_range.1 hk
      unfold badB
      rw [gd k hk']
      simp only [Bool.and_eq_true, decide_eq_true_eq, Bool.or_eq_true, Bool.not_eq_true', not_and, not_or, Bool.not_eq_false]
      intro hne hcv
      exact h k hk' hne hcv
  rw [e0]
  refine ⟨?_, fun c => ?_⟩
  · refine List.Pairwise.map (R := fun a b => a < R.length ∧ b < R.length ∧ a < b) _ (fun a b h => ?_) ?_
    · rw [gd a h.1, gd b h.2.1]; exact hlt a b h.1 h.2.1 h.2.2
    · have h1 : (List.range R.length).Pairwise (· < ·) := List.pairwise_lt_range
      have h2 : ((List.range R.length).filter fun i => stayF cov R i R.length).Pairwise (· < ·) := h1.filter _
      refine List.Pairwise.imp_of_mem ?_ h2
      intro a b ha hb hab
      exact ⟨List.mem_range.1 (List.mem_filter.1 ha).1, List.mem_range.1 (List.mem_filter.1 hb).1, hab⟩
  · rw [List.mem_map]
    constructor
    · rintro ⟨i, hi, rfl⟩
      obtain ⟨h1, h2⟩ := List.mem_filter.1 hi
      have hil := List.mem_range.1 h1
      have h3 := (st i hil).1 h2
      rw [gd i hil] at h3 ⊢
      refine ⟨(hR _).1 (List.getElem_mem hil), fun q hq hne hqc => ?_⟩
      obtain ⟨k, hk, e⟩ := List.mem_iff_getElem.1 ((hR q).2 hq)
      have hki : k ≠ i := fun e2 => hne (by subst e2; exact e.symm)
      have hcv := (hc q ((hR q).2 hq) _ (List.getElem_mem hil)).2 hqc
      rw [← e] at hcv
      obtain ⟨h4, h5⟩ := h3 k hk hki hcv
      rw [e] at h4
      refine ⟨(hc _ (List.getElem_mem hil) q ((hR q).2 hq)).1 h4, ?_⟩
      rw [← e]
      exact hlt i k hil hk (by omega)
    · rintro ⟨h1, h2⟩
      obtain ⟨i, hil, e⟩ := List.mem_iff_getElem.1 ((hR c).2 h1)
      refine ⟨i, List.mem_filter.2 ⟨List.mem_range.2 hil, (st i hil).2 fun k hk hne hcv => ?_⟩, by rw [gd i hil]; exact e⟩
      rw [gd i hil, e] at hcv ⊢
      have hqc := (hc _ (List.getElem_mem hk) c ((hR c).2 h1)).1 hcv
      have hne2 : R[k] ≠ c := fun e2 => by
        rcases Nat.lt_or_gt_of_ne hne with h9 | h9
        · have := hlt k i hk hil h9
          rw [e2, e] at this
          exact plt_order.irr _ this
        · have := hlt i k hil hk h9
          rw [e2, e] at this
          exact plt_order.irr _ this
      obtain ⟨h4, h5⟩ := h2 _ ((hR _).1 (List.getElem_mem hk)) hne2 hqc
      refine ⟨(hc c ((hR c).2 h1) _ (List.getElem_mem hk)).2 h4, fun h9 => ?_⟩
      have h10 := hlt k i hk hil h9
      rw [e] at h10
      exact plt_order.irr _ (plt_order.trans h10 h5)
end Go.Proofs.YtpbknhhjfhpkmaaGreatDoor
